import unittest

from folk.errors import NoRow
from folk.notes import fact_of, read_book, show_book
from samples import FIELDS, SIGNS, drawn_book, drawn_facts

# Rows that are no fact's, each for another reason.
WRONG_ROWS = (
    "Ann name Ann",
    "anN name Ann",
    "ann1 name Ann",
    "1 name Ann",
    "a-b name Ann",
    "a_b name Ann",
    "abcdefghijklm name Ann",
    " name Ann",
    "ann Name Ann",
    "ann names Ann",
    "ann nam Ann",
    "ann ways Ann",
    "ann SAME bo",
    "ann alike bo",
    "ann",
    "ann ",
    "ann name",
    "ann name ",
    "ann same",
    "ann same ",
    "ann name  Ann",
    "ann name Ann ",
    "ann name   ",
    "ann name " + "x" * 41,
    "ann name " + "x" * 39 + " ",
    "ann name " + "x" * 50,
    "ann same ann",
    "ann apart ann",
    "ann same Bo",
    "ann same bo1",
    "ann apart bo cy",
    "ann apart bo ",
    "ann same  bo",
    "ann apart abcdefghijklm",
    "ann same #",
    "abcdefghijklm same bo",
    " ann name Ann",
    "  ann name Ann",
    " ann same bo",
    "ann  name Ann",
    "ann  same bo",
    "ann   name Ann",
    " #",
    " # ann name Ann",
    "a#",
    "-",
    "x",
    "x x",
)


class TestFactOf(unittest.TestCase):
    def refused(self, row):
        with self.assertRaises(NoRow, msg=repr(row)) as taken:
            fact_of(row)
        self.assertEqual(taken.exception.row, 1, repr(row))

    def test_each_field(self):
        for field in FIELDS:
            self.assertEqual(fact_of(f"ann {field} Ann Bo"), ("ann", field, "Ann Bo"))
            self.assertIs(type(fact_of(f"ann {field} Ann Bo")), tuple)

    def test_same_and_apart_in_either_order(self):
        for field in ("same", "apart"):
            self.assertEqual(fact_of(f"ann {field} bo"), ("ann", field, "bo"))
            self.assertEqual(fact_of(f"bo {field} ann"), ("ann", field, "bo"))
            self.assertEqual(fact_of(f"anna {field} ann"), ("ann", field, "anna"))
            self.assertEqual(fact_of(f"ann {field} anna"), ("ann", field, "anna"))

    def test_names_of_one_and_of_twelve_letters(self):
        for name in ("a", "z", "abcdefghijkl", "zzzzzzzzzzzz"):
            self.assertEqual(fact_of(f"{name} name X"), (name, "name", "X"))
            self.assertEqual(fact_of(f"{name} same m"), tuple(sorted((name, "m"))[:1] + ["same"] + sorted((name, "m"))[1:]))
        self.assertEqual(fact_of("abcdefghijkl apart mnopqrstuvwx"), ("abcdefghijkl", "apart", "mnopqrstuvwx"))

    def test_texts_of_one_and_of_forty_signs(self):
        for text in ("x", "#", "x" * 40, "x" + " " * 38 + "x"):
            self.assertEqual(fact_of("ann way " + text), ("ann", "way", text))

    def test_texts_of_every_sign(self):
        for sign in SIGNS:
            text = "x" + sign + "y"
            self.assertEqual(fact_of("ann way " + text), ("ann", "way", text))
            if sign != " ":
                self.assertEqual(fact_of("ann way " + sign), ("ann", "way", sign))

    def test_blanks_within_a_text_stay(self):
        self.assertEqual(fact_of("ann name Ann  M   Bo"), ("ann", "name", "Ann  M   Bo"))

    def test_texts_like_words_of_a_row(self):
        self.assertEqual(fact_of("ann name same bo"), ("ann", "name", "same bo"))
        self.assertEqual(fact_of("name name name"), ("name", "name", "name"))
        self.assertEqual(fact_of("same same apart"), ("apart", "same", "same"))
        self.assertEqual(fact_of("ann name ann"), ("ann", "name", "ann"))

    def test_wrong_rows(self):
        for row in WRONG_ROWS:
            self.refused(row)

    def test_rows_that_a_book_passes_by(self):
        for row in ("", " ", "     ", "#", "# ann name Ann", "#ann name Ann"):
            self.refused(row)


class TestReadBook(unittest.TestCase):
    def refused(self, text, row):
        with self.assertRaises(NoRow, msg=repr(text)) as taken:
            read_book(text)
        self.assertEqual(taken.exception.row, row, repr(text))

    def test_the_text_without_signs(self):
        self.assertEqual(read_book(""), [])

    def test_rows_passed_by_alone(self):
        for text in (" ", "\n", "\n\n", "   \n \n", "#", "# ann name Ann\n#", "\n#\n  \n"):
            self.assertEqual(read_book(text), [], repr(text))

    def test_the_rows_facts_tidy(self):
        text = "bo name Bo\nann way x\nann name Ann\nbo name Bo\nann day 1"
        self.assertEqual(
            read_book(text),
            [("ann", "day", "1"), ("ann", "name", "Ann"), ("ann", "way", "x"), ("bo", "name", "Bo")],
        )

    def test_two_orders_of_two_cards_are_one_fact(self):
        self.assertEqual(read_book("bo same ann\nann same bo"), [("ann", "same", "bo")])
        self.assertEqual(
            read_book("bo same ann\ncy apart bo\nann apart bo"),
            [("ann", "apart", "bo"), ("ann", "same", "bo"), ("bo", "apart", "cy")],
        )

    def test_rows_passed_by_among_others(self):
        text = "\n# first\nbo name Bo\n\n   \n#bo name X\nann name #x\n"
        self.assertEqual(read_book(text), [("ann", "name", "#x"), ("bo", "name", "Bo")])

    def test_each_wrong_row_first_between_and_last(self):
        for row in WRONG_ROWS:
            self.refused(row, 1)
            self.refused("ann name Ann\n" + row, 2)
            self.refused("ann name Ann\n" + row + "\nbo name Bo", 2)

    def test_the_number_of_the_first_wrong_row(self):
        self.refused("ann name Ann\nwrong\nbo name Bo\nworse", 2)
        self.refused("wrong\nworse", 1)

    def test_rows_passed_by_are_counted(self):
        self.refused("\nwrong", 2)
        self.refused("#\n   \n\nwrong\nwrong", 4)
        self.refused("# a\nann name Ann\n\n \nbo name Bo\n#\nann same ann", 7)

    def test_a_long_text(self):
        facts = [("card", "mark", str(number)) for number in range(4000)]
        text = "\n".join(" ".join(fact) for fact in facts)
        self.assertLessEqual(len(text), 60000)
        self.assertEqual(read_book(text), sorted(facts))
        self.refused(text + "\nwrong", 4001)

    def test_a_new_list_each_time(self):
        for text in ("", "ann name Ann"):
            told = read_book(text)
            again = read_book(text)
            self.assertIsNot(told, again)
            kept = list(again)
            told.append(("z", "name", "Z"))
            self.assertEqual(again, kept)
            self.assertEqual(read_book(text), kept)


class TestShowBook(unittest.TestCase):
    def test_no_facts(self):
        self.assertEqual(show_book([]), "")

    def test_one_row_has_no_line_feed(self):
        self.assertEqual(show_book([("ann", "name", "Ann  Bo")]), "ann name Ann  Bo")

    def test_rows_in_the_books_order(self):
        book = [("ann", "apart", "cy"), ("ann", "name", "#1"), ("ann", "same", "bo"), ("bo", "way", "a b")]
        self.assertEqual(show_book(book), "ann apart cy\nann name #1\nann same bo\nbo way a b")

    def test_written_and_read_again(self):
        for number in range(200):
            book = drawn_book(number, number % 40)
            text = show_book(book)
            self.assertEqual(read_book(text), book)
            self.assertEqual(len(text.split("\n")), max(1, len(book)))
            self.assertFalse(text.endswith("\n"))

    def test_read_in_any_order_and_written(self):
        for number in range(100):
            facts = drawn_facts(number, 25)
            text = show_book(read_book("\n".join(" ".join(fact) for fact in facts)))
            self.assertEqual(text, "\n".join(" ".join(fact) for fact in sorted(set(facts))))

    def test_each_row_is_its_fact(self):
        book = drawn_book(7, 40)
        self.assertEqual([fact_of(row) for row in show_book(book).split("\n")], book)

    def test_what_is_handed_in_stays(self):
        book = drawn_book(1, 20)
        kept = list(book)
        show_book(book)
        self.assertEqual(book, kept)


if __name__ == "__main__":
    unittest.main()
