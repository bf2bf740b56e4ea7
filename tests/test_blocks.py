import unittest

from folk.blocks import blocks_of
from folk.errors import Odds
from folk.facts import cards_of
from samples import drawn_book, shortest_chains


def blocks_by_words(book):
    cards = cards_of(book)
    blocks = []
    for card in cards:
        block = [other for other in cards if shortest_chains(book, card, other) != []]
        if block not in blocks:
            blocks.append(block)
    return blocks


class TestBlocks(unittest.TestCase):
    def refused(self, book, chains):
        kept = list(book)
        with self.assertRaises(Odds) as taken:
            blocks_of(book)
        self.assertIs(type(taken.exception.chain), list)
        self.assertIn(taken.exception.chain, chains)
        self.assertEqual(book, kept)

    def test_a_book_without_facts(self):
        self.assertEqual(blocks_of([]), [])

    def test_cards_that_no_fact_with_same_tells(self):
        self.assertEqual(blocks_of([("b", "name", "X"), ("c", "name", "X")]), [["b"], ["c"]])
        self.assertEqual(blocks_of([("a", "apart", "c"), ("b", "name", "X")]), [["a"], ["b"], ["c"]])

    def test_two_cards_told_the_same(self):
        self.assertEqual(blocks_of([("a", "name", "A"), ("a", "same", "c"), ("b", "name", "A")]), [["a", "c"], ["b"]])

    def test_cards_joined_by_chains(self):
        book = [("a", "same", "e"), ("b", "same", "f"), ("c", "same", "e"), ("c", "same", "g"), ("d", "name", "D")]
        self.assertEqual(blocks_of(book), [["a", "c", "e", "g"], ["b", "f"], ["d"]])

    def test_two_chains_joined_late(self):
        book = [("a", "same", "d"), ("b", "same", "c"), ("b", "same", "e"), ("d", "same", "e")]
        self.assertEqual(blocks_of(book), [["a", "b", "c", "d", "e"]])

    def test_rings_of_facts(self):
        self.assertEqual(blocks_of([("a", "same", "b"), ("a", "same", "c"), ("b", "same", "c")]), [["a", "b", "c"]])

    def test_sorted_by_the_order_of_texts(self):
        book = [("a", "same", "zz"), ("aa", "name", "X"), ("ab", "same", "b")]
        self.assertEqual(blocks_of(book), [["a", "zz"], ["aa"], ["ab", "b"]])

    def test_apart_between_blocks_is_not_at_odds(self):
        book = [("a", "apart", "c"), ("a", "same", "b"), ("b", "apart", "d"), ("c", "same", "d")]
        self.assertEqual(blocks_of(book), [["a", "b"], ["c", "d"]])

    def test_at_odds_by_one_fact(self):
        self.refused([("a", "apart", "b"), ("a", "same", "b")], (["a", "b"],))

    def test_at_odds_by_a_chain(self):
        book = [("a", "apart", "c"), ("a", "same", "d"), ("b", "same", "c"), ("b", "same", "d")]
        self.refused(book, (["a", "d", "b", "c"],))

    def test_the_chain_is_a_shortest_one(self):
        book = [("a", "apart", "d"), ("a", "same", "b"), ("a", "same", "e"), ("b", "same", "c"), ("c", "same", "d"), ("d", "same", "e")]
        self.refused(book, (["a", "e", "d"],))

    def test_the_first_fact_at_odds(self):
        book = [("a", "apart", "c"), ("a", "same", "b"), ("b", "apart", "c"), ("b", "same", "c")]
        self.refused(book, (["a", "b", "c"],))
        book = [("a", "apart", "d"), ("a", "same", "b"), ("b", "apart", "e"), ("b", "same", "c"), ("c", "apart", "e"), ("c", "same", "e")]
        self.refused(book, (["b", "c", "e"],))

    def test_the_first_fact_at_odds_is_the_books_not_the_blocks(self):
        # The first block has its apart behind that of the second one in the book's order.
        book = [("a", "same", "z"), ("b", "apart", "c"), ("b", "same", "c"), ("y", "apart", "z"), ("y", "same", "z")]
        self.refused(book, (["b", "c"],))

    def test_drawn_books(self):
        seen = {"blocks": 0, "odds": 0}
        for number in range(400):
            book = drawn_book(number, number % 16)
            wrong = [
                (one, other) for one, field, other in book
                if field == "apart" and shortest_chains(book, one, other) != []
            ]
            if wrong:
                seen["odds"] += 1
                self.refused(book, shortest_chains(book, *wrong[0]))
            else:
                seen["blocks"] += 1
                self.assertEqual(blocks_of(book), blocks_by_words(book))
        self.assertGreater(min(seen.values()), 50)

    def test_forty_cards_in_one_block(self):
        cards = [first + second for first in "abcde" for second in "stuvwxyz"]
        book = [(one, "same", other) for one, other in zip(cards, cards[1:])]
        self.assertEqual(blocks_of(book), [cards])
        self.refused(sorted(book + [(cards[0], "apart", cards[-1])]), (cards,))

    def test_what_is_handed_in_stays_and_lists_are_new(self):
        book = [("a", "same", "b"), ("c", "name", "C")]
        told = blocks_of(book)
        again = blocks_of(book)
        self.assertEqual(book, [("a", "same", "b"), ("c", "name", "C")])
        self.assertIsNot(told, again)
        for one in told:
            self.assertFalse(any(one is other for other in again))
        self.assertIsNot(told[0], told[1])
        told[0].clear()
        told.clear()
        self.assertEqual(again, [["a", "b"], ["c"]])
        self.assertEqual(blocks_of(book), again)


if __name__ == "__main__":
    unittest.main()
