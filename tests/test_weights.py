import itertools
import unittest

from folk.facts import cards_of
from folk.rules import read_rules
from folk.weights import weight_of, weights_of
from samples import drawn_book

BOOK = [
    ("ann", "name", "Ann Bo"),
    ("ann", "way", "x@y"),
    ("anna", "former", "ann bo"),
    ("anna", "name", "Anna Bo"),
    ("anna", "way", "x@y"),
    ("bo", "name", "Bo"),
    ("bo", "same", "zed"),
]
RULES = "for 30 way same\nfor 5 name near\nagainst 4 name other\nfor 100 name former"


class TestWeightOf(unittest.TestCase):
    def check(self, rules, book, one, other, told):
        self.assertEqual(weight_of(rules, book, one, other), told)
        self.assertEqual(weight_of(rules, book, other, one), told)
        self.assertIs(type(weight_of(rules, book, one, other)), int)

    def test_no_rules(self):
        self.check([], BOOK, "ann", "anna", 0)

    def test_the_sum_of_all_that_speak(self):
        rules = read_rules(RULES)
        self.check(rules, BOOK, "ann", "anna", 30 + 5 - 4 + 100)
        self.check(rules, BOOK, "ann", "bo", -4)
        self.check(rules, BOOK, "ann", "zed", 0)

    def test_a_rule_told_twice_counts_twice(self):
        self.check(read_rules("for 3 way same\nfor 3 way same\nfor 4 way same"), BOOK, "ann", "anna", 10)

    def test_rules_of_one_sort_and_unlike_fields(self):
        book = [("a", "day", "1"), ("a", "name", "x"), ("b", "day", "1"), ("b", "name", "y"), ("b", "way", "1")]
        self.check(read_rules("for 1 name same\nfor 10 day same\nfor 100 way same"), book, "a", "b", 10)

    def test_rules_of_one_field_and_unlike_sorts(self):
        book = [("a", "name", "x"), ("b", "name", "X")]
        self.check(read_rules("for 1 name same\nfor 10 name like\nfor 100 name near\nfor 1000 name other"), book, "a", "b", 110)

    def test_for_and_against_that_come_to_nought(self):
        self.check(read_rules("for 7 way same\nagainst 3 way like\nagainst 4 way near"), BOOK, "ann", "anna", 0)

    def test_great_weights(self):
        rules = read_rules("\n".join(["against 1000000000 way same"] * 40))
        self.check(rules, BOOK, "ann", "anna", -40000000000)

    def test_what_is_handed_in_stays(self):
        rules, book = read_rules(RULES), list(BOOK)
        kept = list(rules)
        weight_of(rules, book, "ann", "anna")
        self.assertEqual(book, BOOK)
        self.assertEqual(rules, kept)


class TestWeightsOf(unittest.TestCase):
    def test_no_rules_and_no_cards(self):
        self.assertEqual(weights_of([], BOOK), [])
        self.assertEqual(weights_of(read_rules(RULES), []), [])
        self.assertEqual(weights_of([], []), [])

    def test_one_card(self):
        self.assertEqual(weights_of(read_rules(RULES), [("a", "name", "A"), ("a", "former", "A")]), [])

    def test_each_two_cards_once_sorted(self):
        self.assertEqual(
            weights_of(read_rules(RULES), BOOK),
            [("ann", "anna", 131), ("ann", "bo", -4), ("anna", "bo", -4)],
        )

    def test_weights_that_come_to_nought_are_not_told(self):
        self.assertEqual(weights_of(read_rules("for 4 way same\nagainst 4 name other"), BOOK), [("ann", "bo", -4), ("anna", "bo", -4)])

    def test_cards_told_as_texts_of_same_alone(self):
        book = [("a", "name", "A"), ("a", "same", "b"), ("c", "name", "A")]
        self.assertEqual(weights_of(read_rules("for 2 name same"), book), [("a", "c", 2)])

    def test_drawn_books(self):
        rules = read_rules("for 3 name same\nagainst 2 name other\nfor 2 way near\nagainst 1 day like\nfor 1 name former")
        for number in range(60):
            book = drawn_book(number, number % 30)
            told = []
            for one, other in itertools.combinations(cards_of(book), 2):
                weight = sum(rule.weight for rule in rules if rule.speaks(book, one, other))
                self.assertEqual(weight_of(rules, book, one, other), weight)
                if weight != 0:
                    told.append((one, other, weight))
            self.assertEqual(weights_of(rules, book), told)

    def test_forty_cards(self):
        cards = [first + second for first in "abcde" for second in "stuvwxyz"]
        book = [(card, "name", "N") for card in cards]
        told = weights_of(read_rules("for 1 name same"), book)
        self.assertEqual(told, [(one, other, 1) for one, other in itertools.combinations(cards, 2)])

    def test_what_is_handed_in_stays_and_lists_are_new(self):
        rules, book = read_rules(RULES), list(BOOK)
        kept = list(rules)
        told = weights_of(rules, book)
        again = weights_of(rules, book)
        self.assertEqual((rules, book), (kept, BOOK))
        self.assertIsNot(told, again)
        self.assertIs(type(told[0]), tuple)
        told.clear()
        self.assertEqual(len(again), 3)
        self.assertEqual(weights_of(rules, book), again)


if __name__ == "__main__":
    unittest.main()
