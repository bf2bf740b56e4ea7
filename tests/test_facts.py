import itertools
import unittest

from folk.facts import cards_of, texts_of, tidy
from samples import FIELDS, drawn_book, drawn_facts

BOOK = [
    ("ann", "apart", "zed"),
    ("ann", "day", "2 May"),
    ("ann", "former", "Ann Cox"),
    ("ann", "mark", "#1"),
    ("ann", "name", "Ann"),
    ("ann", "name", "Ann Bo"),
    ("ann", "same", "anna"),
    ("ann", "way", "ann@bo"),
    ("anna", "name", "Anna"),
    ("bo", "same", "cy"),
]


class TestTidy(unittest.TestCase):
    def test_no_facts(self):
        self.assertEqual(tidy([]), [])

    def test_one_fact(self):
        self.assertEqual(tidy([("bo", "name", "Bo")]), [("bo", "name", "Bo")])

    def test_in_any_order(self):
        book = [("a", "name", "B"), ("a", "same", "b"), ("ab", "day", "x"), ("b", "name", "A")]
        for facts in itertools.permutations(book):
            self.assertEqual(tidy(list(facts)), book)

    def test_some_of_them_twice(self):
        book = [("a", "name", "A"), ("a", "name", "a"), ("a", "way", "A")]
        facts = [book[2], book[0], book[1], book[0], book[2], book[0]]
        self.assertEqual(tidy(facts), book)

    def test_facts_that_differ_by_one_sign_both_stay(self):
        facts = [("a", "name", "x"), ("a", "name", "X"), ("a", "former", "x"), ("b", "name", "x"), ("a", "name", "x x")]
        self.assertEqual(len(tidy(facts)), 5)

    def test_sorted_as_tuples(self):
        self.assertEqual(
            tidy([("ab", "day", "x"), ("a", "way", "z"), ("a", "day", "z"), ("a", "day", "Z")]),
            [("a", "day", "Z"), ("a", "day", "z"), ("a", "way", "z"), ("ab", "day", "x")],
        )

    def test_a_book_stays(self):
        self.assertEqual(tidy(BOOK), BOOK)

    def test_drawn_facts(self):
        for number in range(200):
            facts = drawn_facts(number, number % 40)
            book = tidy(facts)
            self.assertIs(type(book), list)
            for place in range(1, len(book)):
                self.assertLess(book[place - 1], book[place])
            for fact in facts:
                self.assertIn(fact, book)
            for fact in book:
                self.assertIn(fact, facts)

    def test_what_is_handed_in_stays(self):
        facts = [("b", "name", "B"), ("a", "name", "A"), ("b", "name", "B")]
        kept = list(facts)
        told = tidy(facts)
        self.assertEqual(facts, kept)
        self.assertIsNot(told, facts)
        facts.clear()
        self.assertEqual(told, [("a", "name", "A"), ("b", "name", "B")])

    def test_a_new_list_each_time(self):
        for facts in ([], list(BOOK)):
            told = tidy(facts)
            again = tidy(facts)
            self.assertIsNot(told, facts)
            self.assertIsNot(told, again)
            told.append(("z", "name", "Z"))
            self.assertEqual(again, facts)
            self.assertEqual(tidy(facts), facts)

    def test_four_hundred_facts(self):
        facts = [("a", "mark", str(number)) for number in range(400)]
        self.assertEqual(tidy(facts[::-1]), sorted(facts))


class TestCards(unittest.TestCase):
    def test_no_facts(self):
        self.assertEqual(cards_of([]), [])

    def test_told_as_cards(self):
        self.assertEqual(cards_of([("b", "name", "x"), ("c", "day", "y")]), ["b", "c"])

    def test_told_as_texts_of_same_and_apart(self):
        self.assertEqual(cards_of([("b", "same", "z")]), ["b", "z"])
        self.assertEqual(cards_of([("b", "apart", "z")]), ["b", "z"])
        self.assertEqual(cards_of([("b", "name", "B"), ("b", "same", "c"), ("c", "apart", "d")]), ["b", "c", "d"])

    def test_texts_of_other_fields_are_no_cards(self):
        for field in FIELDS:
            self.assertEqual(cards_of([("b", field, "ann")]), ["b"])

    def test_each_once(self):
        book = [("a", "apart", "b"), ("a", "name", "A"), ("a", "name", "B"), ("a", "same", "b"), ("b", "name", "B")]
        self.assertEqual(cards_of(book), ["a", "b"])

    def test_sorted_though_texts_come_in_another_order(self):
        self.assertEqual(cards_of([("a", "same", "z"), ("b", "same", "c"), ("m", "name", "M")]), ["a", "b", "c", "m", "z"])

    def test_a_name_that_is_the_beginning_of_another(self):
        book = [("a", "name", "x"), ("aa", "name", "x"), ("ab", "same", "abc")]
        self.assertEqual(cards_of(book), ["a", "aa", "ab", "abc"])

    def test_whole(self):
        self.assertEqual(cards_of(BOOK), ["ann", "anna", "bo", "cy", "zed"])

    def test_drawn_books(self):
        for number in range(200):
            book = drawn_book(number, number % 12)
            names = {fact[0] for fact in book} | {fact[2] for fact in book if fact[1] in ("same", "apart")}
            self.assertEqual(cards_of(book), sorted(names))

    def test_what_is_handed_in_stays_and_lists_are_new(self):
        book = list(BOOK)
        told = cards_of(book)
        again = cards_of(book)
        self.assertEqual(book, BOOK)
        self.assertIsNot(told, again)
        told.reverse()
        self.assertEqual(again, ["ann", "anna", "bo", "cy", "zed"])
        self.assertEqual(cards_of(book), again)


class TestTexts(unittest.TestCase):
    def test_each_field(self):
        told = {
            "name": ["Ann", "Ann Bo"],
            "former": ["Ann Cox"],
            "way": ["ann@bo"],
            "day": ["2 May"],
            "mark": ["#1"],
        }
        for field in FIELDS:
            self.assertEqual(texts_of(BOOK, "ann", field), told[field])

    def test_none_in_a_field(self):
        for field in FIELDS:
            if field != "name":
                self.assertEqual(texts_of(BOOK, "anna", field), [])

    def test_of_a_card_that_only_same_or_apart_tells(self):
        for field in FIELDS:
            for card in ("bo", "cy", "zed"):
                self.assertEqual(texts_of(BOOK, card, field), [])

    def test_of_a_name_that_is_no_card(self):
        for field in FIELDS:
            self.assertEqual(texts_of(BOOK, "an", field), [])
            self.assertEqual(texts_of(BOOK, "annab", field), [])
            self.assertEqual(texts_of([], "ann", field), [])

    def test_a_card_has_not_the_texts_of_one_whose_name_begins_so(self):
        book = [("a", "name", "A"), ("ab", "name", "AB"), ("abc", "name", "ABC")]
        self.assertEqual(texts_of(book, "a", "name"), ["A"])
        self.assertEqual(texts_of(book, "ab", "name"), ["AB"])
        self.assertEqual(texts_of(book, "abc", "name"), ["ABC"])

    def test_sorted_by_the_order_of_texts(self):
        book = [("a", "way", text) for text in ("!", "B", "a", "ab", "b")]
        self.assertEqual(texts_of(book, "a", "way"), ["!", "B", "a", "ab", "b"])

    def test_drawn_books(self):
        for number in range(60):
            book = drawn_book(number, 30)
            for card in ("a", "ab", "b", "ba", "c", "zed", "none"):
                for field in FIELDS:
                    told = sorted(text for one, other, text in book if (one, other) == (card, field))
                    self.assertEqual(texts_of(book, card, field), told)

    def test_what_is_handed_in_stays_and_lists_are_new(self):
        book = list(BOOK)
        told = texts_of(book, "ann", "name")
        again = texts_of(book, "ann", "name")
        self.assertEqual(book, BOOK)
        self.assertIsNot(told, again)
        told.clear()
        self.assertEqual(again, ["Ann", "Ann Bo"])
        self.assertEqual(texts_of(book, "ann", "name"), again)
        none = texts_of(book, "bo", "name")
        none.append("x")
        self.assertEqual(texts_of(book, "bo", "name"), [])


if __name__ == "__main__":
    unittest.main()
