"""What several tests ask with: signs, small texts, facts, and books drawn by a number."""

import itertools
import random

SIGNS = "".join(chr(code) for code in range(ord(" "), ord("~") + 1) if chr(code) != "%")
FIELDS = ("name", "former", "way", "day", "mark")


def texts_up_to(length, signs):
    """Every text of at most so many of these signs, the shortest ones first."""
    texts = [""]
    last = [""]
    for _ in range(length):
        last = [text + sign for text in last for sign in signs]
        texts.extend(last)
    return texts


def subsets(things):
    """Every list of some of these things, in their order."""
    found = [[]]
    for thing in things:
        found = found + [some + [thing] for some in found]
    return found


def drawn_facts(number, many, cards=("a", "ab", "b", "ba", "c", "zed"), texts=("A", "a", "Ab", "b b", "#x")):
    """So many facts, drawn by this number: in no order, some perhaps twice."""
    draw = random.Random(number)
    facts = []
    for _ in range(many):
        if draw.random() < 0.4:
            one, other = sorted(draw.sample(cards, 2))
            facts.append((one, draw.choice(("same", "apart")), other))
        else:
            facts.append((draw.choice(cards), draw.choice(FIELDS), draw.choice(texts)))
    return facts


def drawn_book(number, many, **more):
    return sorted(set(drawn_facts(number, many, **more)))


def shortest_chains(book, one, other):
    """Every shortest chain of facts with same between two cards."""
    told = {(first, second) for first, field, second in book if field == "same"}
    chains = [[one]]
    seen = {one}
    while chains and all(chain[-1] != other for chain in chains):
        longer = []
        for chain in chains:
            for card in {name for pair in told if chain[-1] in pair for name in pair}:
                if card not in seen:
                    longer.append(chain + [card])
        seen |= {chain[-1] for chain in longer}
        chains = longer
    return [chain for chain in chains if chain[-1] == other]


def all_groupings(many):
    """Every grouping of so many blocks, in the order of lists."""
    found = [[]]
    for _ in range(many):
        found = [grouping + [group] for grouping in found for group in range(len(set(grouping)) + 1)]
    return found


def numbered(labels):
    """The groups of these labels, numbered from 0 as they first come."""
    seen = []
    for label in labels:
        if label not in seen:
            seen.append(label)
    return [seen.index(label) for label in labels]


def loss_by_words(pairs, grouping):
    above = sum(weight for i, j, weight in pairs if weight > 0 and grouping[i] != grouping[j])
    below = sum(-weight for i, j, weight in pairs if weight < 0 and grouping[i] == grouping[j])
    return above + below


def keeps_by_words(aparts, grouping):
    return not [pair for pair in aparts if grouping[pair[0]] == grouping[pair[1]]]


def drawn_case(number, many, greatest=6):
    """A case of so many blocks, of a density that hangs on the number too."""
    draw = random.Random(number)
    density = draw.choice((0.2, 0.5, 0.8, 1))
    parting = draw.choice((0, 0, 0.1, 0.3))
    above = draw.choice((0.3, 0.5, 0.7))
    pairs = []
    aparts = []
    for i, j in itertools.combinations(range(many), 2):
        if draw.random() < density:
            pairs.append((i, j, draw.randint(1, greatest) * (1 if draw.random() < above else -1)))
        if draw.random() < parting:
            aparts.append((i, j))
    return (many, pairs, aparts)
