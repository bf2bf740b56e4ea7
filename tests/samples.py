"""What several tests ask with: signs, small texts, facts, and books drawn by a number."""

import random

SIGNS = "".join(chr(code) for code in range(ord(" "), ord("~") + 1) if chr(code) != "%")
FIELDS = ("name", "former", "way", "day", "mark")


def texts_up_to(length, signs):
    """Every text of at most so many of these signs, the shortest ones first."""
    texts = [""]
    last = [""]
    for _ in range(length):
        last = [text + sign for text in last for sign in signs]
        texts.extend(last)
    return texts


def subsets(things):
    """Every list of some of these things, in their order."""
    found = [[]]
    for thing in things:
        found = found + [some + [thing] for some in found]
    return found


def drawn_facts(number, many, cards=("a", "ab", "b", "ba", "c", "zed"), texts=("A", "a", "Ab", "b b", "#x")):
    """So many facts, drawn by this number: in no order, some perhaps twice."""
    draw = random.Random(number)
    facts = []
    for _ in range(many):
        if draw.random() < 0.4:
            one, other = sorted(draw.sample(cards, 2))
            facts.append((one, draw.choice(("same", "apart")), other))
        else:
            facts.append((draw.choice(cards), draw.choice(FIELDS), draw.choice(texts)))
    return facts


def drawn_book(number, many, **more):
    return sorted(set(drawn_facts(number, many, **more)))


def shortest_chains(book, one, other):
    """Every shortest chain of facts with same between two cards."""
    told = {(first, second) for first, field, second in book if field == "same"}
    chains = [[one]]
    seen = {one}
    while chains and all(chain[-1] != other for chain in chains):
        longer = []
        for chain in chains:
            for card in {name for pair in told if chain[-1] in pair for name in pair}:
                if card not in seen:
                    longer.append(chain + [card])
        seen |= {chain[-1] for chain in longer}
        chains = longer
    return [chain for chain in chains if chain[-1] == other]
