"""The weights of two cards by rules, and those of a whole book."""

from folk.facts import cards_of


def weight_of(rules, book, one, other):
    # Of rules of one sort and field only the first is asked: the others answer alike.
    answers = {}
    total = 0
    for rule in rules:
        asked = (rule.sort_word(), rule.field)
        if asked not in answers:
            answers[asked] = rule.speaks(book, one, other)
        if answers[asked]:
            total = total + rule.weight
    return total


def facts_by_card(book):
    facts = {}
    for fact in book:
        facts.setdefault(fact[0], []).append(fact)
    return facts


def weights_of(rules, book):
    cards = cards_of(book)
    facts = facts_by_card(book)
    weights = []
    for place, one in enumerate(cards):
        for other in cards[place + 1:]:
            # Rules look at these two alone, so they need not go through the whole book.
            weight = weight_of(rules, facts.get(one, []) + facts.get(other, []), one, other)
            if weight != 0:
                weights.append((one, other, weight))
    return weights
