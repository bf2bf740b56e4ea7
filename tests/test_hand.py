import itertools
import unittest

from folk.errors import NoPair, NoText
from folk.facts import cards_of, texts_of
from folk.hand import put_right, set_apart, set_free, set_same
from folk.notes import read_book
from samples import FIELDS, drawn_book

SETTERS = {"same": set_same, "apart": set_apart, None: set_free}
BOOK = read_book("a name Ann\nb name Bo\nc name Cy\na same c\nb apart c\na way b\nb way a")


class TestSetters(unittest.TestCase):
    def check(self, book, field, one, other):
        """The book with these two told so, in either order, and all else as it was."""
        low, high = sorted((one, other))
        told = {fact for fact in book if fact not in ((low, "same", high), (low, "apart", high))}
        if field:
            told.add((low, field, high))
        kept = list(book)
        for pair in ((one, other), (other, one)):
            self.assertEqual(SETTERS[field](book, *pair), sorted(told), (book, field, pair))
        self.assertEqual(book, kept)
        return sorted(told)

    def test_two_cards_told_nothing_yet(self):
        self.assertEqual(set_same(BOOK, "a", "b"), sorted(BOOK + [("a", "same", "b")]))
        self.assertEqual(set_apart(BOOK, "b", "a"), sorted(BOOK + [("a", "apart", "b")]))
        self.assertEqual(set_free(BOOK, "a", "b"), BOOK)

    def test_each_behind_each_other_one(self):
        for first, second, third in itertools.product(SETTERS, repeat=3):
            for one, other in itertools.permutations("abc", 2):
                book = BOOK
                for field in (first, second, third):
                    book = self.check(book, field, one, other)

    def test_both_told_at_once(self):
        book = read_book("a same b\na apart b\na name Ann\nb name Bo")
        for field in SETTERS:
            self.check(book, field, "a", "b")
        self.assertEqual(set_free(book, "a", "b"), read_book("a name Ann\nb name Bo"))

    def test_facts_of_other_pairs_stay(self):
        book = read_book("a same b\na same c\nb same c\na apart d\nb apart d")
        self.assertEqual(set_free(book, "b", "a"), read_book("a same c\nb same c\na apart d\nb apart d"))
        self.assertEqual(set_apart(book, "a", "c"), read_book("a same b\na apart c\nb same c\na apart d\nb apart d"))
        self.assertEqual(set_same(book, "d", "b"), read_book("a same b\na same c\nb same c\na apart d\nb same d"))

    def test_texts_that_are_names_of_cards_stay(self):
        book = read_book("a name b\nb former a\na same b")
        self.assertEqual(set_free(book, "a", "b"), read_book("a name b\nb former a"))

    def test_cards_that_only_the_pair_tells(self):
        self.assertEqual(set_free([("a", "same", "b")], "a", "b"), [])
        self.assertEqual(set_apart([("a", "same", "b")], "a", "b"), [("a", "apart", "b")])
        self.assertEqual(set_same([("a", "apart", "b")], "b", "a"), [("a", "same", "b")])

    def test_a_name_that_is_the_beginning_of_another(self):
        book = read_book("a name X\nab name X\nab same abc")
        self.assertEqual(set_same(book, "ab", "a"), read_book("a name X\nab name X\nab same abc\na same ab"))

    def test_one_card_twice(self):
        for ask in SETTERS.values():
            for card in ("a", "c", "none"):
                with self.assertRaises(NoPair):
                    ask(BOOK, card, card)

    def test_a_name_that_is_no_card(self):
        for ask in SETTERS.values():
            for one, other in (("a", "d"), ("d", "a"), ("d", "e"), ("a", "aa"), ("ann", "a")):
                with self.assertRaises(NoPair):
                    ask(BOOK, one, other)
            with self.assertRaises(NoPair):
                ask([], "a", "b")

    def test_drawn_books(self):
        for number in range(100):
            book = drawn_book(number, 3 + number % 20)
            for one, other in itertools.permutations(cards_of(book), 2):
                for field in SETTERS:
                    self.check(book, field, one, other)

    def test_lists_are_new(self):
        for field, ask in SETTERS.items():
            book = list(BOOK)
            told = ask(book, "a", "b")
            again = ask(book, "a", "b")
            self.assertIsNot(told, book)
            self.assertIsNot(told, again)
            kept = list(again)
            told.clear()
            self.assertEqual((book, again), (BOOK, kept))
            self.assertEqual(ask(book, "a", "b"), kept)

    def test_each_card_keeps_its_texts(self):
        book = BOOK
        for field, (one, other) in itertools.product(SETTERS, itertools.permutations("abc", 2)):
            book = SETTERS[field](book, one, other)
            for card, name in itertools.product("abc", FIELDS):
                self.assertEqual(texts_of(book, card, name), texts_of(BOOK, card, name))


class TestPutRight(unittest.TestCase):
    GIVEN = read_book("a name Anm\nb name Anm\nb name Bo\nc name Anm\na former Anm\nb way Anm\na same b\na apart c")

    def test_in_each_card_of_the_group_that_has_it(self):
        told = put_right(self.GIVEN, ["a", "b"], "name", "Anm", "Ann")
        self.assertEqual(
            told, read_book("a name Ann\nb name Ann\nb name Bo\nc name Anm\na former Anm\nb way Anm\na same b\na apart c")
        )
        self.assertEqual(put_right(self.GIVEN, ["b", "a"], "name", "Anm", "Ann"), told)

    def test_one_card_of_the_group_has_it(self):
        told = read_book("a name Anm\nb name Anm\nb name Bob\nc name Anm\na former Anm\nb way Anm\na same b\na apart c")
        self.assertEqual(put_right(self.GIVEN, ["a", "b", "c"], "name", "Bo", "Bob"), told)
        self.assertEqual(put_right(self.GIVEN, ["b"], "name", "Bo", "Bob"), told)

    def test_by_itself(self):
        self.assertEqual(put_right(self.GIVEN, ["a", "b"], "name", "Anm", "Anm"), self.GIVEN)
        self.assertIsNot(put_right(self.GIVEN, ["a", "b"], "name", "Anm", "Anm"), self.GIVEN)

    def test_by_one_that_a_card_has_already(self):
        self.assertEqual(
            put_right(self.GIVEN, ["a", "b"], "name", "Anm", "Bo"),
            read_book("a name Bo\nb name Bo\nc name Anm\na former Anm\nb way Anm\na same b\na apart c"),
        )

    def test_each_field_for_itself(self):
        book = sorted((card, field, "x") for card in "ab" for field in FIELDS)
        for field in FIELDS:
            told = put_right(book, ["a"], field, "x", "y")
            self.assertEqual(told, sorted([fact for fact in book if fact != ("a", field, "x")] + [("a", field, "y")]))

    def test_a_text_that_no_card_of_the_group_has(self):
        for group, field, old in (
            (["a"], "name", "Bo"),
            (["a", "c"], "name", "Bo"),
            (["a", "b", "c"], "name", "anm"),
            (["a", "b", "c"], "name", "An"),
            (["a", "b", "c"], "day", "Anm"),
            (["c"], "former", "Anm"),
            ([], "name", "Anm"),
        ):
            with self.assertRaises(NoText):
                put_right(self.GIVEN, group, field, old, "new")
            with self.assertRaises(NoText):
                put_right(self.GIVEN, group, field, old, old)
        with self.assertRaises(NoText):
            put_right([], [], "name", "x", "y")

    def test_names_of_cards_told_the_same_stay(self):
        book = read_book("a name b\na same b\nb name b")
        self.assertEqual(put_right(book, ["a", "b"], "name", "b", "z"), read_book("a name z\na same b\nb name z"))

    def test_drawn_books(self):
        for number in range(80):
            book = drawn_book(number, 20)
            group = cards_of(book)[number % 3::2]
            for field, old, new in itertools.product(FIELDS, ("A", "b b", "#x"), ("A", "new")):
                having = [card for card in group if (card, field, old) in book]
                if having == []:
                    with self.assertRaises(NoText):
                        put_right(book, group, field, old, new)
                    continue
                stay = [fact for fact in book if fact not in [(card, field, old) for card in having]]
                told = sorted(set(stay + [(card, field, new) for card in having]))
                self.assertEqual(put_right(book, group, field, old, new), told)

    def test_what_is_handed_in_stays_and_lists_are_new(self):
        book, group = list(self.GIVEN), ["b", "a"]
        told = put_right(book, group, "name", "Anm", "Ann")
        again = put_right(book, group, "name", "Anm", "Ann")
        self.assertEqual((book, group), (self.GIVEN, ["b", "a"]))
        self.assertIsNot(told, again)
        kept = list(again)
        told.clear()
        self.assertEqual(again, kept)
        self.assertEqual(put_right(book, group, "name", "Anm", "Ann"), kept)

    def test_cards_taken_apart_again_are_what_they_were(self):
        start = read_book("a name Anm\nb name Anm\nb day 1\nc name Cy")
        book = set_same(start, "a", "b")
        book = set_same(book, "b", "c")
        self.assertEqual(set_free(set_free(book, "c", "b"), "a", "b"), start)
        book = put_right(book, ["a", "b", "c"], "name", "Anm", "Ann")
        book = set_free(set_apart(book, "b", "c"), "c", "b")
        self.assertEqual(set_free(book, "a", "b"), read_book("a name Ann\nb name Ann\nb day 1\nc name Cy"))


if __name__ == "__main__":
    unittest.main()
