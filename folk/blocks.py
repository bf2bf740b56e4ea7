"""Blocks: the cards that are one person's by what was told by hand."""

from folk.chains import chain_of, joined
from folk.errors import Odds
from folk.facts import cards_of


def told_pairs(book, field):
    return [(fact[0], fact[2]) for fact in book if fact[1] == field]


def places_in(blocks):
    places = {}
    for place, block in enumerate(blocks):
        for card in block:
            places[card] = place
    return places


def blocks_of(book):
    blocks = joined(cards_of(book), told_pairs(book, "same"))
    places = places_in(blocks)
    for one, other in told_pairs(book, "apart"):
        if places[one] == places[other]:
            raise Odds(chain_of(book, one, other))
    return blocks
