"""Ways from one text to another, their distance, and texts that are near."""

from folk.letters import plain_of


def next_row(row, sign, other):
    longer = [row[0] + 1]
    for place, target in enumerate(other):
        if sign == target:
            longer.append(row[place])
        else:
            longer.append(1 + min(row[place], row[place + 1], longer[place]))
    return longer


def distance_rows(one, other):
    # rows[i][j] is the distance of the first i signs of one and the first j of other.
    rows = [list(range(len(other) + 1))]
    for sign in one:
        rows.append(next_row(rows[-1], sign, other))
    return rows


def distance(one, other):
    return distance_rows(one, other)[-1][-1]


def last_step(rows, one, other):
    i = len(one)
    j = len(other)
    if i == 0:
        return ("put", other[-1])
    if j == 0:
        return ("cut", one[-1])
    if one[-1] == other[-1]:
        return ("keep", one[-1])
    if rows[i][j] == rows[i - 1][j - 1] + 1:
        return ("turn", one[-1], other[-1])
    if rows[i][j] == rows[i - 1][j] + 1:
        return ("cut", one[-1])
    return ("put", other[-1])


def way_of(one, other):
    rows = distance_rows(one, other)
    steps = []
    while one != "" or other != "":
        step = last_step(rows, one, other)
        steps.append(step)
        if step[0] != "put":
            one = one[:-1]
        if step[0] != "cut":
            other = other[:-1]
    return list(reversed(steps))


def near_forms(text):
    # A text put plain, parted at each place, with the sign behind it and without:
    # two texts are near just where they share such a form. Rules ask this of very
    # many texts, and shared forms are found without going through all pairs of texts.
    plain = plain_of(text)
    forms = []
    for place in range(len(plain) + 1):
        forms.append((plain[:place], plain[place:]))
        forms.append((plain[:place], plain[place + 1:]))
    return forms


def is_near(one, other):
    return len(set(near_forms(one)) & set(near_forms(other))) > 0
