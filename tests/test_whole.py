"""What the document promises over the whole program."""

import itertools
import unittest

from folk.best import best_of
from folk.blocks import blocks_of
from folk.checking import is_shown
from folk.desk import Desk
from folk.errors import Odds
from folk.facts import cards_of, texts_of
from folk.groups import book_case, book_loss, groups_of, texts_told
from folk.hand import put_right, set_apart, set_free, set_same
from folk.notes import read_book, show_book
from folk.papers import paper_of
from folk.pouring import poured, poured_all
from folk.rules import read_rules
from folk.weights import weights_of
from samples import FIELDS, all_groupings, drawn_book, loss_by_words, shortest_chains

ROWS = "for 3 name same\nfor 2 name near\nagainst 4 name other\nfor 3 way near\nagainst 2 day other\nfor 2 name former"
RULES = read_rules(ROWS)


def grouped_losses(rules, book):
    """What each grouping of the cards that keeps what was told by hand loses: of two blocks the sum of their weights."""
    cards = cards_of(book)
    first = {card: cards.index(block[0]) for block in blocks_of(book) for card in block}
    sums = {}
    for one, other, weight in weights_of(rules, book):
        pair = tuple(sorted((first[one], first[other])))
        sums[pair] = sums.get(pair, 0) + weight
    pairs = [(i, j, weight) for (i, j), weight in sums.items() if i != j]
    losses = []
    for grouping in all_groupings(len(cards)):
        groups = dict(zip(cards, grouping))
        told = [(field, groups[one] == groups[text]) for one, field, text in book if field in ("same", "apart")]
        if ("same", False) not in told and ("apart", True) not in told:
            losses.append(loss_by_words(pairs, grouping))
    return losses


def books():
    """Drawn books of at most six cards, those at odds left out."""
    found = []
    for number in range(160):
        book = drawn_book(number, 8 + number % 20, texts=("Ann", "ann", "Anna", "Bo", "B"))
        # Few facts with same and apart, so that most books are not at odds.
        told = [fact for place, fact in enumerate(book) if fact[1] in FIELDS or place % 4 == 0]
        try:
            blocks_of(told)
        except Odds:
            continue
        found.append(told)
    return found


class TestPouring(unittest.TestCase):
    def test_the_same_in_every_order_and_once_more(self):
        for number in range(40):
            base = drawn_book(number, 15)
            sides = [sorted(set(base[place::2]) | set(drawn_book(number * 7 + place, 8))) for place in range(3)]
            told = poured_all(base, sides)
            for order in itertools.permutations(sides):
                self.assertEqual(poured_all(base, list(order)), told)
            for side in sides:
                self.assertEqual(poured(base, told, side), told)
                self.assertEqual(poured(base, side, told), told)
            self.assertEqual(poured_all(base, sides + sides), told)
            self.assertEqual(read_book(show_book(told)), told)

    def test_at_a_desk(self):
        desk = Desk()
        for number in range(20):
            for place, name in enumerate(("base", "one", "other")):
                desk.say(f"book {name}\n" + show_book(drawn_book(number + 50 * place, 12)))
            desk.say("pour here base one other")
            desk.say("pour there base other one")
            told = desk.say("show here")
            self.assertEqual(desk.say("show there"), told)
            desk.say("pour here base here one")
            self.assertEqual(desk.say("show here"), told)


class TestGrouping(unittest.TestCase):
    def test_there_are_enough_books(self):
        self.assertGreater(len(books()), 60)
        self.assertGreater(len([book for book in books() if book_loss(RULES, book) > 0]), 10)

    def test_groups_keep_what_was_told_by_hand(self):
        for book in books():
            groups = groups_of(RULES, book)
            self.assertEqual(sorted(card for group in groups for card in group), cards_of(book))
            for one, field, text in book:
                together = any(one in group and text in group for group in groups)
                if field == "same":
                    self.assertTrue(together, book)
                if field == "apart":
                    self.assertFalse(together, book)

    def test_or_the_shortest_chain_is_shown_that_says_both(self):
        for number in range(150):
            book = drawn_book(number, 14)
            wrong = [fact for fact in book if fact[1] == "apart" and shortest_chains(book, fact[0], fact[2])]
            if wrong:
                with self.assertRaises(Odds) as taken:
                    groups_of(RULES, book)
                self.assertIn(taken.exception.chain, shortest_chains(book, wrong[0][0], wrong[0][2]))

    def test_they_lose_the_least_that_any_grouping_loses(self):
        for book in books():
            self.assertEqual(book_loss(RULES, book), min(grouped_losses(RULES, book)), book)

    def test_the_paper_shows_it_and_not_one_more(self):
        for book in books():
            case = book_case(RULES, book)
            paper = paper_of(*case)
            loss = book_loss(RULES, book)
            self.assertEqual(best_of(*case)[0], loss)
            self.assertIs(is_shown(paper, *case, loss), True)
            self.assertIs(is_shown(paper, *case, loss + 1), False)

    def test_each_text_with_the_cards_that_it_comes_from(self):
        for book in books():
            facts = []
            for group in groups_of(RULES, book):
                for field, text, cards in texts_told(book, group):
                    self.assertEqual(cards, [card for card in group if (card, field, text) in book])
                    facts.extend((card, field, text) for card in cards)
            self.assertEqual(sorted(facts), [fact for fact in book if fact[1] in FIELDS])

    def test_at_a_desk(self):
        desk = Desk()
        desk.say("rules\n" + ROWS)
        for book in books():
            desk.say("book it\n" + show_book(book))
            groups = groups_of(RULES, book)
            self.assertEqual(desk.say("groups it"), " / ".join(" ".join(group) for group in groups))
            self.assertEqual(desk.say("loss it"), str(book_loss(RULES, book)))
            for group in groups:
                rows = [f"{field} {text}; {' '.join(cards)}" for field, text, cards in texts_told(book, group)]
                for card in group:
                    self.assertEqual(desk.say("told it " + card), "\n".join(rows))


class TestTakenApart(unittest.TestCase):
    def test_cards_are_what_they_were_with_what_was_put_right(self):
        for number in range(40):
            start = [fact for fact in drawn_book(number, 20) if fact[1] in FIELDS]
            cards = cards_of(start)
            book = start
            for one, other in zip(cards, cards[1:]):
                book = set_same(book, one, other)
            self.assertEqual(groups_of([], book), [cards])
            field, old = start[number % len(start)][1:]
            book = put_right(book, cards, field, old, "put right")
            for one, other in zip(cards, cards[1:]):
                book = set_free(set_apart(book, other, one), one, other)
            righted = [(card, name, "put right" if (name, text) == (field, old) else text) for card, name, text in start]
            self.assertEqual(book, sorted(righted))
            for card, name in itertools.product(cards, FIELDS):
                if name != field:
                    self.assertEqual(texts_of(book, card, name), texts_of(start, card, name))

    def test_at_a_desk(self):
        desk = Desk()
        rows = "ann name Anm\nanna name Anm\nanna way x\nbo name Bo"
        desk.say("book it\n" + rows)
        desk.say("hold it ann anna")
        desk.say("right it anna name\nAnm\nAnn")
        desk.say("hold it anna bo")
        self.assertEqual(desk.say("told it ann"), "name Ann; ann anna\nname Bo; bo\nway x; anna")
        desk.say("free it bo anna")
        desk.say("part it anna ann")
        desk.say("free it anna ann")
        self.assertEqual(desk.say("show it"), rows.replace("Anm", "Ann"))


if __name__ == "__main__":
    unittest.main()
