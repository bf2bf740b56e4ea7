"""A checker of papers: does a paper show that no grouping of a case loses less?"""

HELD = "held"
PARTED = "parted"


def is_whole(value):
    return isinstance(value, int) and not isinstance(value, bool)


def is_block(value, many):
    return is_whole(value) and 0 <= value < many


def pair_of(one, other):
    return (min(one, other), max(one, other))


def is_ring(ring, many):
    return len(ring) >= 3 and len(set(ring)) == len(ring) and all([is_block(block, many) for block in ring])


def links_of(ring):
    return [pair_of(one, other) for one, other in zip(ring, ring[1:])]


def gap_of(ring):
    return pair_of(ring[0], ring[-1])


def is_never(ring, many, decided):
    if not is_ring(ring, many):
        return False
    all_held = all([decided.get(link) == HELD for link in links_of(ring)])
    return all_held and decided.get(gap_of(ring)) == PARTED


def open_pairs(ring, decided):
    return [pair for pair in links_of(ring) + [gap_of(ring)] if pair not in decided]


def is_losing(ring, many, weights, decided):
    # A ring always loses something: its links ask for one group, its gap for two.
    if not is_ring(ring, many) or open_pairs(ring, decided) == []:
        return False
    for link in links_of(ring):
        if decided.get(link) == PARTED or (link not in decided and weights.get(link, 0) <= 0):
            return False
    gap = gap_of(ring)
    return decided.get(gap) == PARTED or (gap not in decided and weights.get(gap, 0) < 0)


def decided_loss(weights, decided):
    loss = 0
    for pair, choice in decided.items():
        weight = weights.get(pair, 0)
        if (choice == HELD) != (weight > 0):
            loss = loss + abs(weight)
    return loss


def rings_show(rings, many, weights, decided, least):
    shown = decided_loss(weights, decided)
    used = {}
    for ring, amount in rings:
        if not is_whole(amount) or amount < 1 or not is_losing(ring, many, weights, decided):
            return False
        shown = shown + amount
        for pair in open_pairs(ring, decided):
            used[pair] = used.get(pair, 0) + amount
    within = all([amount <= abs(weights[pair]) for pair, amount in used.items()])
    return within and shown >= least


def may_decide(paper, many, decided):
    i = paper[1]
    j = paper[2]
    return is_block(i, many) and is_block(j, many) and i < j and (i, j) not in decided


def with_choice(decided, pair, choice):
    more = dict(decided)
    more[pair] = choice
    return more


def first_decided(aparts):
    decided = {}
    for pair in aparts:
        decided[pair] = PARTED
    return decided


def first_weights(pairs):
    weights = {}
    for i, j, weight in pairs:
        weights[(i, j)] = weight
    return weights


def is_shown(paper, many, pairs, aparts, least):
    weights = first_weights(pairs)
    # The papers still to be walked, each with what is decided above it: a list in
    # the place of a recursion, since cases may stand deep within each other.
    ahead = [(paper, first_decided(aparts))]
    while len(ahead) > 0:
        here = ahead.pop()
        paper_here = here[0]
        decided = here[1]
        if paper_here[0] == "case":
            if not may_decide(paper_here, many, decided):
                return False
            pair = (paper_here[1], paper_here[2])
            ahead.append((paper_here[3], with_choice(decided, pair, HELD)))
            ahead.append((paper_here[4], with_choice(decided, pair, PARTED)))
        elif paper_here[0] == "rings":
            if not rings_show(paper_here[1], many, weights, decided, least):
                return False
        elif not is_never(paper_here[1], many, decided):
            return False
    return True
