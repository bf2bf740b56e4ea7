"""Changes between books, and books poured together by what all had at first."""


def fact_changed(change):
    return change[1]


def changes_of(one, other):
    gone = [("-", fact) for fact in sorted(set(one) - set(other))]
    come = [("+", fact) for fact in sorted(set(other) - set(one))]
    return sorted(gone + come, key=fact_changed)


def changed_by(book, some):
    gone = [fact for sign, fact in some if sign == "-"]
    come = [fact for sign, fact in some if sign == "+"]
    return sorted((set(book) - set(gone)) | set(come))


def poured_all(base, sides):
    kept = list(base)
    told = []
    for side in sides:
        kept = sorted(set(kept) & set(side))
        told = told + side
    return sorted(set(kept) | (set(told) - set(base)))


def poured(base, one, other):
    return poured_all(base, [one, other])
