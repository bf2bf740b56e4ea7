"""Chains of what is told to be the same, and what they join."""


def neighbours_of(book):
    neighbours = {}
    for fact in book:
        if fact[1] == "same":
            neighbours.setdefault(fact[0], []).append(fact[2])
            neighbours.setdefault(fact[2], []).append(fact[0])
    return neighbours


def steps_from(book, one):
    # Each card that a chain from one reaches, with the card ahead of it in a shortest chain.
    neighbours = neighbours_of(book)
    ahead = {one: None}
    reached = [one]
    place = 0
    while place < len(reached):
        here = reached[place]
        for card in neighbours.get(here, []):
            if card not in ahead:
                ahead[card] = here
                reached.append(card)
        place = place + 1
    return ahead


def chain_of(book, one, other):
    ahead = steps_from(book, one)
    if other not in ahead:
        return None
    chain = []
    card = other
    while card is not None:
        chain.append(card)
        card = ahead[card]
    return list(reversed(chain))


def joined(things, links):
    # The lists of things that chains of links join; the things are handed in sorted.
    first = {}
    for thing in things:
        first[thing] = thing
    for one, other in links:
        kept = min(first[one], first[other])
        lost = max(first[one], first[other])
        for thing in things:
            if first[thing] == lost:
                first[thing] = kept
    lists = {}
    for thing in things:
        lists.setdefault(first[thing], []).append(thing)
    return list(lists.values())
