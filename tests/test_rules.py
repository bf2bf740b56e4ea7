import itertools
import unittest

from folk.errors import NoRow
from folk.facts import texts_of
from folk.letters import is_like, plain_of
from folk.rules import Former, Like, Near, Other, Rule, Same, read_rule, read_rules, show_rule
from folk.ways import distance
from samples import FIELDS, drawn_book

FIVE = (Same, Like, Near, Other, Former)
SORTS = {"same": Same, "like": Like, "near": Near, "other": Other}

# Rows that are no rule's, each for another reason.
WRONG_ROWS = (
    "for 0 name same",
    "for 00 name same",
    "for 01 name same",
    "against 0 name same",
    "against 010 name same",
    "for 1000000001 name same",
    "against 1000000001 name same",
    "for 2000000000 name same",
    "for 9999999999 name same",
    "for 10000000000 name same",
    "for " + "9" * 60 + " name same",
    "for -1 name same",
    "for +1 name same",
    "against -1 name same",
    "for x name same",
    "for 1x name same",
    "for 1.5 name same",
    "for 1_0 name same",
    "for one name same",
    "with 1 name same",
    "FOR 1 name same",
    "For 1 name same",
    "Against 1 name same",
    "fo 1 name same",
    "forr 1 name same",
    "for 1 names same",
    "for 1 Name same",
    "for 1 same same",
    "for 1 apart same",
    "for 1 card same",
    "for 1 name Same",
    "for 1 name apart",
    "for 1 name sames",
    "for 1 name name",
    "for 1 former former",
    "for 1 way former",
    "for 1 day former",
    "against 1 mark former",
    "for 1 name Former",
    "for 1 name",
    "for 1",
    "for",
    "1 name same",
    "for name same",
    "for 1 same",
    "for 1 name same same",
    "for 1 name same x",
    "for for 1 name same",
    "for  name same",
    "for  1 name same",
    "for 1  name same",
    "for 1 name  same",
    " for 1 name same",
    "for 1 name same ",
    "  for 1 name same",
    "for 1 name same  ",
    " # for 1 name same",
    " #",
)


def some_pair(book, one, other, field, fits):
    return any(fits(a, b) for a in texts_of(book, one, field) for b in texts_of(book, other, field))


def near_by_distance(one, other):
    return distance(plain_of(one), plain_of(other)) <= 1


def speaks_by_words(sort, field, book, one, other):
    """Whether a rule speaks, gone through text by text as the document says it."""
    if sort == "same":
        return some_pair(book, one, other, field, lambda a, b: a == b)
    if sort == "like":
        return some_pair(book, one, other, field, is_like)
    if sort == "near":
        return some_pair(book, one, other, field, near_by_distance)
    if sort == "other":
        both = texts_of(book, one, field) != [] and texts_of(book, other, field) != []
        return both and not some_pair(book, one, other, field, is_like)
    return any(
        is_like(name, former)
        for first, second in ((one, other), (other, one))
        for name in texts_of(book, first, "name")
        for former in texts_of(book, second, "former")
    )


class TestRows(unittest.TestCase):
    def refused(self, row):
        with self.assertRaises(NoRow, msg=repr(row)) as taken:
            read_rule(row)
        self.assertEqual(taken.exception.row, 1, repr(row))

    def check(self, row, kind, weight, field):
        rule = read_rule(row)
        self.assertIs(type(rule), kind, row)
        self.assertIsInstance(rule, Rule)
        self.assertEqual((rule.weight, rule.field), (weight, field), row)
        self.assertIs(type(rule.weight), int)
        self.assertEqual(show_rule(rule), row)

    def test_each_field_and_sort(self):
        for field, word in itertools.product(FIELDS, SORTS):
            self.check(f"for 7 {field} {word}", SORTS[word], 7, field)
            self.check(f"against 30 {field} {word}", SORTS[word], -30, field)

    def test_former(self):
        self.check("for 12 name former", Former, 12, "name")
        self.check("against 3 name former", Former, -3, "name")

    def test_least_and_greatest_weights(self):
        for amount in (1, 9, 10, 100, 999999999, 1000000000):
            self.check(f"for {amount} name same", Same, amount, "name")
            self.check(f"against {amount} day other", Other, -amount, "day")
            self.check(f"against {amount} name former", Former, -amount, "name")

    def test_wrong_rows(self):
        for row in WRONG_ROWS:
            self.refused(row)

    def test_rows_that_rules_pass_by_are_no_rule(self):
        for row in ("", " ", "    ", "#", "# for 1 name same"):
            self.refused(row)

    def test_made_rules_are_shown(self):
        self.assertEqual(show_rule(Same(4, "way")), "for 4 way same")
        self.assertEqual(show_rule(Like(-4, "former")), "against 4 former like")
        self.assertEqual(show_rule(Near(1, "day")), "for 1 day near")
        self.assertEqual(show_rule(Other(-1000000000, "mark")), "against 1000000000 mark other")
        self.assertEqual(show_rule(Former(2)), "for 2 name former")
        self.assertEqual(show_rule(Former(-2)), "against 2 name former")


class TestTexts(unittest.TestCase):
    def shown(self, text):
        told = read_rules(text)
        self.assertIs(type(told), list)
        return [show_rule(rule) for rule in told]

    def refused(self, text, row):
        with self.assertRaises(NoRow, msg=repr(text)) as taken:
            read_rules(text)
        self.assertEqual(taken.exception.row, row, repr(text))

    def test_no_rules(self):
        for text in ("", " ", "\n", "#", "\n\n   \n# for 1 name same\n"):
            self.assertEqual(read_rules(text), [], repr(text))

    def test_rules_in_their_order(self):
        rows = ["for 3 name near", "against 2 day other", "for 1 way same", "for 3 name near"]
        self.assertEqual(self.shown("\n".join(rows)), rows)

    def test_rows_passed_by_among_others(self):
        text = "# ours\n\nfor 3 name near\n   \n#\nagainst 2 day other\n"
        self.assertEqual(self.shown(text), ["for 3 name near", "against 2 day other"])

    def test_each_wrong_row_first_between_and_last(self):
        for row in WRONG_ROWS:
            self.refused(row, 1)
            self.refused("for 1 name same\n" + row, 2)
            self.refused("for 1 name same\n" + row + "\nfor 2 way same", 2)

    def test_the_number_of_the_first_wrong_row(self):
        self.refused("for 1 name same\nwrong\nfor 1 name same\nwrong", 2)
        self.refused("wrong\nwrong", 1)

    def test_rows_passed_by_are_counted(self):
        self.refused("\nwrong", 2)
        self.refused("# a\n   \n\nfor 1 name same\n\nfor 0 name same", 6)

    def test_forty_rules(self):
        rows = [f"for {number + 1} name same" for number in range(40)]
        self.assertEqual(self.shown("\n".join(rows)), rows)

    def test_a_new_list_each_time(self):
        for text in ("", "for 1 name same"):
            told = read_rules(text)
            again = read_rules(text)
            self.assertIsNot(told, again)
            told.append("x")
            self.assertEqual(len(again), len(told) - 1)
            self.assertEqual(len(read_rules(text)), len(again))


class TestClasses(unittest.TestCase):
    def test_each_stands_under_rule_and_none_under_another(self):
        for kind in FIVE:
            self.assertTrue(issubclass(kind, Rule))
            self.assertIsNot(kind, Rule)
            for other in FIVE:
                if kind is not other:
                    self.assertFalse(issubclass(kind, other), (kind, other))

    def test_values_are_as_they_were_made(self):
        for kind in (Same, Like, Near, Other):
            for weight, field in itertools.product((5, -5, 1000000000), FIELDS):
                rule = kind(weight, field)
                self.assertEqual((rule.weight, rule.field), (weight, field))
        for weight in (5, -5):
            self.assertEqual((Former(weight).weight, Former(weight).field), (weight, "name"))

    def test_two_of_a_class_have_their_own_values(self):
        one, other = Same(1, "name"), Same(2, "way")
        self.assertEqual((one.weight, one.field, other.weight, other.field), (1, "name", 2, "way"))


class TestSpeaks(unittest.TestCase):
    def check(self, rule, ones, others, told, field="name"):
        """Two cards with these texts in a field: does the rule speak of them?"""
        book = sorted(
            {("a", field, text) for text in ones} | {("b", field, text) for text in others} | {("a", "same", "b")}
        )
        kept = list(book)
        self.assertIs(rule.speaks(book, "a", "b"), told, (ones, others))
        self.assertIs(rule.speaks(book, "b", "a"), told, (ones, others))
        self.assertEqual(book, kept)

    def test_same(self):
        for field in FIELDS:
            rule = Same(1, field)
            self.check(rule, ["Ann"], ["Ann"], True, field)
            self.check(rule, ["Ann"], ["ann"], False, field)
            self.check(rule, ["Ann Bo"], ["Ann  Bo"], False, field)
            self.check(rule, ["Ann"], ["Anna"], False, field)
            self.check(rule, ["Ann", "Cy"], ["Bo", "Cy", "Di"], True, field)
            self.check(rule, ["Ann", "Cy"], ["Bo", "Di"], False, field)
            self.check(rule, [], [], False, field)
            self.check(rule, ["Ann"], [], False, field)

    def test_like(self):
        for field in FIELDS:
            rule = Like(1, field)
            self.check(rule, ["Ann"], ["Ann"], True, field)
            self.check(rule, ["Ann"], ["aNN"], True, field)
            self.check(rule, ["Ann Bo"], ["ann   bo"], True, field)
            self.check(rule, ["Ann"], ["Anna"], False, field)
            self.check(rule, ["AnnBo"], ["Ann Bo"], False, field)
            self.check(rule, ["Ann", "Cy"], ["Bo", "cy", "Di"], True, field)
            self.check(rule, ["Ann", "Cy"], ["Bo", "Cyd", "Di"], False, field)
            self.check(rule, [], [], False, field)
            self.check(rule, ["Ann"], [], False, field)

    def test_near(self):
        for field in FIELDS:
            rule = Near(1, field)
            self.check(rule, ["Ann"], ["Ann"], True, field)
            self.check(rule, ["Ann"], ["aNN"], True, field)
            self.check(rule, ["Ann"], ["anna"], True, field)
            self.check(rule, ["Ann"], ["nn"], True, field)
            self.check(rule, ["Ann"], ["Amn"], True, field)
            self.check(rule, ["Ann  Bo"], ["annbo"], True, field)
            self.check(rule, ["Ann"], ["Annab"], False, field)
            self.check(rule, ["Ann"], ["nan"], False, field)
            self.check(rule, ["ab"], ["ba"], False, field)
            self.check(rule, ["Ann", "Cy"], ["Zed", "Ce", "Xenia"], True, field)
            self.check(rule, ["Ann", "Cyd"], ["Zeno", "Xenia"], False, field)
            self.check(rule, [], [], False, field)
            self.check(rule, ["A"], [], False, field)
            self.check(rule, ["A"], ["b"], True, field)

    def test_near_texts_of_forty_signs(self):
        rule = Near(1, "way")
        self.check(rule, ["x" * 40], ["x" * 39 + "y"], True, "way")
        self.check(rule, ["x" * 40], ["x" * 39], True, "way")
        self.check(rule, ["x" * 40], ["x" * 38], False, "way")
        self.check(rule, ["x" * 40], ["y" + "x" * 38 + "y"], False, "way")

    def test_other(self):
        for field in FIELDS:
            rule = Other(1, field)
            self.check(rule, ["Ann"], ["Bo"], True, field)
            self.check(rule, ["Ann"], ["Anna"], True, field)
            self.check(rule, ["Ann"], ["Ann"], False, field)
            self.check(rule, ["Ann"], ["aNN"], False, field)
            self.check(rule, ["Ann", "Cy"], ["Bo", "cy"], False, field)
            self.check(rule, ["Ann", "Cy"], ["Bo", "Di"], True, field)
            self.check(rule, [], [], False, field)
            self.check(rule, ["Ann"], [], False, field)
            self.check(rule, [], ["Ann", "Bo"], False, field)

    def test_rules_look_at_their_field_alone(self):
        book = [("a", "name", "Ann"), ("b", "way", "Ann")]
        for field in FIELDS:
            for kind in (Same, Like, Near, Other):
                self.assertIs(kind(1, field).speaks(book, "a", "b"), False)

    def test_rules_look_at_their_cards_alone(self):
        book = [("a", "name", "Ann"), ("ab", "name", "Bo"), ("b", "name", "Xenia"), ("c", "name", "Ann")]
        for kind in (Same, Like, Near):
            self.assertIs(kind(1, "name").speaks(book, "a", "b"), False)
            self.assertIs(kind(1, "name").speaks(book, "a", "c"), True)
            self.assertIs(kind(1, "name").speaks(book, "ab", "c"), False)
        self.assertIs(Other(1, "name").speaks(book, "a", "ab"), True)
        self.assertIs(Other(1, "name").speaks(book, "c", "a"), False)

    def test_former_from_either_card(self):
        rule = Former(1)
        for book, told in (
            ([("a", "name", "Ann Cox"), ("b", "former", "Ann Cox")], True),
            ([("a", "former", "Ann Cox"), ("b", "name", "Ann Cox")], True),
            ([("a", "former", "ann  COX"), ("b", "name", "Ann Cox")], True),
            ([("a", "former", "Ann Cox"), ("b", "name", "Ann Coxe")], False),
            ([("a", "name", "Ann Cox"), ("b", "name", "Ann Cox")], False),
            ([("a", "former", "Ann Cox"), ("b", "former", "Ann Cox")], False),
            ([("a", "former", "Ann Cox"), ("a", "name", "Ann Cox"), ("b", "name", "Bo")], False),
            ([("a", "former", "X"), ("a", "former", "Y"), ("b", "name", "W"), ("b", "name", "y")], True),
            ([("a", "former", "X"), ("b", "former", "W"), ("b", "name", "Y"), ("c", "name", "X")], False),
            ([("a", "name", "X"), ("b", "way", "X")], False),
            ([("a", "same", "b")], False),
        ):
            self.assertIs(rule.speaks(book, "a", "b"), told, book)
            self.assertIs(rule.speaks(book, "b", "a"), told, book)

    def test_cards_that_only_same_or_apart_tells(self):
        book = [("a", "same", "b"), ("a", "apart", "c")]
        for one, other in itertools.permutations("abc", 2):
            for field in FIELDS:
                for kind in (Same, Like, Near, Other):
                    self.assertIs(kind(1, field).speaks(book, one, other), False)
            self.assertIs(Former(1).speaks(book, one, other), False)

    def test_drawn_books(self):
        texts = ("Ann", "ann", "anna", "A nn", "Anne B", "anneb", "bo", "b", "Bob", "annann")
        rules = [(word, SORTS[word](1, field)) for word in SORTS for field in ("name", "former")] + [("former", Former(1))]
        for number in range(60):
            book = drawn_book(number, 5 + number % 25, cards=("a", "ab", "b", "ba"), texts=texts)
            cards = [card for card in ("a", "ab", "b", "ba") if any(card in (fact[0], fact[2]) for fact in book)]
            for one, other in itertools.permutations(cards, 2):
                for word, rule in rules:
                    told = speaks_by_words(word, rule.field, book, one, other)
                    self.assertIs(rule.speaks(book, one, other), told, (word, rule.field, one, other, book))

    def test_the_weight_is_nothing_to_it(self):
        book = [("a", "name", "Ann"), ("b", "name", "Ann")]
        for weight in (1, -1, 1000000000, -1000000000):
            self.assertIs(Same(weight, "name").speaks(book, "a", "b"), True)
            self.assertIs(Other(weight, "name").speaks(book, "a", "b"), False)


if __name__ == "__main__":
    unittest.main()
