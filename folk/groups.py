"""The groups of a book's cards by rules, what they lose, and what a group tells."""

from folk.best import best_of
from folk.blocks import blocks_of, places_in, told_pairs
from folk.facts import FIELDS, texts_of
from folk.weights import weights_of


def pair_of_places(places, one, other):
    return (min(places[one], places[other]), max(places[one], places[other]))


def block_pairs(rules, book, places):
    sums = {}
    for one, other, weight in weights_of(rules, book):
        pair = pair_of_places(places, one, other)
        if pair[0] != pair[1]:
            sums[pair] = sums.get(pair, 0) + weight
    return [(pair[0], pair[1], total) for pair, total in sorted(sums.items()) if total != 0]


def block_aparts(book, places):
    aparts = [pair_of_places(places, one, other) for one, other in told_pairs(book, "apart")]
    return sorted(set(aparts))


def book_case(rules, book):
    blocks = blocks_of(book)
    places = places_in(blocks)
    return (len(blocks), block_pairs(rules, book, places), block_aparts(book, places))


def best_of_book(rules, book):
    case = book_case(rules, book)
    return best_of(case[0], case[1], case[2])


def groups_of(rules, book):
    grouping = best_of_book(rules, book)[1]
    groups = {}
    for block, group in zip(blocks_of(book), grouping):
        groups.setdefault(group, []).extend(block)
    return sorted([sorted(cards) for cards in groups.values()])


def book_loss(rules, book):
    return best_of_book(rules, book)[0]


def cards_by_text(book, group, field):
    holders = {}
    for card in sorted(group):
        for text in texts_of(book, card, field):
            holders.setdefault(text, []).append(card)
    return holders


def texts_told(book, group):
    told = []
    for field in FIELDS:
        for text, cards in sorted(cards_by_text(book, group, field).items()):
            told.append((field, text, cards))
    return told
