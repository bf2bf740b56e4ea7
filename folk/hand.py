"""What is told by hand: two cards the same, apart or free, and texts put right."""

from folk.errors import NoPair, NoText
from folk.facts import cards_of, pair_fact, tidy


def set_free(book, one, other):
    cards = cards_of(book)
    if one == other or one not in cards or other not in cards:
        raise NoPair()
    gone = (pair_fact(one, "same", other), pair_fact(one, "apart", other))
    return [fact for fact in book if fact not in gone]


def set_same(book, one, other):
    return tidy(set_free(book, one, other) + [pair_fact(one, "same", other)])


def set_apart(book, one, other):
    return tidy(set_free(book, one, other) + [pair_fact(one, "apart", other)])


def put_right(book, group, field, old, new):
    gone = [(card, field, old) for card in group if (card, field, old) in book]
    if gone == []:
        raise NoText()
    come = [(fact[0], field, new) for fact in gone]
    return sorted((set(book) - set(gone)) | set(come))
