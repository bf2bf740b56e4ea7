import itertools
import unittest

from folk.chains import chain_of
from folk.facts import cards_of
from samples import drawn_book, shortest_chains


class TestChain(unittest.TestCase):
    def check(self, book, one, other):
        chain = chain_of(book, one, other)
        shortest = shortest_chains(book, one, other)
        if shortest == []:
            self.assertIsNone(chain)
        else:
            self.assertIs(type(chain), list)
            self.assertIn(chain, shortest)

    def test_a_card_and_itself(self):
        self.assertEqual(chain_of([("a", "name", "A")], "a", "a"), ["a"])
        self.assertEqual(chain_of([("a", "same", "b")], "a", "a"), ["a"])
        self.assertEqual(chain_of([("a", "apart", "b")], "b", "b"), ["b"])

    def test_two_cards_told_by_one_fact(self):
        book = [("a", "same", "b")]
        self.assertEqual(chain_of(book, "a", "b"), ["a", "b"])
        self.assertEqual(chain_of(book, "b", "a"), ["b", "a"])

    def test_none(self):
        book = [("a", "apart", "b"), ("a", "name", "X"), ("a", "same", "d"), ("b", "name", "X"), ("b", "same", "c")]
        self.assertIsNone(chain_of(book, "a", "b"))
        self.assertIsNone(chain_of(book, "c", "d"))
        self.assertIsNone(chain_of([("a", "name", "X"), ("b", "name", "X")], "b", "a"))

    def test_longer_chains_through_facts_in_either_order(self):
        book = [("a", "same", "c"), ("b", "same", "c"), ("b", "same", "d")]
        self.assertEqual(chain_of(book, "a", "d"), ["a", "c", "b", "d"])
        self.assertEqual(chain_of(book, "d", "a"), ["d", "b", "c", "a"])
        self.assertEqual(chain_of(book, "c", "d"), ["c", "b", "d"])

    def test_the_shorter_of_two(self):
        book = [("a", "same", "b"), ("a", "same", "e"), ("b", "same", "c"), ("c", "same", "d"), ("d", "same", "e")]
        self.assertEqual(chain_of(book, "a", "d"), ["a", "e", "d"])
        self.assertEqual(chain_of(book, "c", "a"), ["c", "b", "a"])
        self.assertEqual(chain_of(book, "e", "a"), ["e", "a"])

    def test_several_shortest_ones(self):
        book = [("a", "same", "b"), ("a", "same", "c"), ("b", "same", "d"), ("c", "same", "d")]
        self.assertIn(chain_of(book, "a", "d"), (["a", "b", "d"], ["a", "c", "d"]))
        self.check(book, "b", "c")

    def test_facts_with_apart_and_texts_are_no_links(self):
        book = [("a", "apart", "c"), ("a", "name", "c"), ("a", "same", "b"), ("b", "same", "c")]
        self.assertEqual(chain_of(book, "a", "c"), ["a", "b", "c"])

    def test_forty_cards_in_a_row(self):
        cards = [first + second for first in "abcde" for second in "stuvwxyz"]
        book = [(one, "same", other) for one, other in zip(cards, cards[1:])]
        self.assertEqual(chain_of(book, cards[0], cards[-1]), cards)
        self.assertEqual(chain_of(book, cards[-1], cards[0]), cards[::-1])

    def test_drawn_books(self):
        for number in range(150):
            book = drawn_book(number, number % 20)
            for one, other in itertools.product(cards_of(book), repeat=2):
                self.check(book, one, other)

    def test_what_is_handed_in_stays_and_lists_are_new(self):
        book = [("a", "same", "b"), ("b", "same", "c")]
        told = chain_of(book, "a", "c")
        again = chain_of(book, "a", "c")
        self.assertEqual(book, [("a", "same", "b"), ("b", "same", "c")])
        self.assertIsNot(told, again)
        told.clear()
        self.assertEqual(again, ["a", "b", "c"])
        self.assertEqual(chain_of(book, "a", "c"), again)


if __name__ == "__main__":
    unittest.main()
