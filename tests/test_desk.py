import unittest

from folk.desk import Desk
from folk.errors import NoName, NoPair, NoRow, NoText, Odds, TooMany
from samples import FIELDS

BOOK = "bo name Bo\nbob name Bo\nbob way x\nann name Ann"
SHOWN = "ann name Ann\nbo name Bo\nbob name Bo\nbob way x"
RULES = "for 5 name same\nagainst 3 way other"
# Nine cards of one name: more than a part may have.
MANY = "\n".join(f"{letter} name X" for letter in "abcdefghi")
AT_ODDS = "a same b\nb same c\na apart c"


class Asked(unittest.TestCase):
    def setUp(self):
        self.desk = Desk()

    def say(self, text, told="ok"):
        answer = self.desk.say(text)
        self.assertIs(type(answer), str)
        self.assertEqual(answer, told, text)

    def refused(self, kind, text, told=None):
        """The text is refused so: told is the error's value, where it has one."""
        with self.assertRaises(kind, msg=repr(text)) as taken:
            self.desk.say(text)
        value = {NoRow: "row", NoName: "name", Odds: "chain", TooMany: "count"}.get(kind)
        if value:
            self.assertEqual(getattr(taken.exception, value), told, repr(text))

    def with_books(self):
        self.say("rules\n" + RULES)
        self.say("book ours\n" + BOOK)
        self.say("book odd\n" + AT_ODDS)
        self.say("book many\n" + MANY)
        self.say("book none")

    def state(self):
        return [self.desk.say("show " + name) for name in ("ours", "odd", "many", "none")] + [self.desk.say("groups ours")]


class TestOrders(Asked):
    def test_book_and_show(self):
        self.say("book ours\n" + BOOK)
        self.say("show ours", SHOWN)

    def test_a_book_without_facts(self):
        for text in ("book ours", "book ours\n", "book ours\n\n   \n# nothing"):
            self.say(text)
            self.say("show ours", "")

    def test_a_books_rows(self):
        self.say("book ours\n# ours\n\nbo same ann\n   \nann name #1\nbo same ann\n")
        self.say("show ours", "ann name #1\nann same bo")

    def test_a_book_told_anew(self):
        self.say("book ours\n" + BOOK)
        self.say("book theirs\nz name Z")
        self.say("book ours\na name A")
        self.say("show ours", "a name A")
        self.say("show theirs", "z name Z")

    def test_names_of_one_and_of_twelve_letters(self):
        for name in ("a", "abcdefghijkl", "book", "rules", "show"):
            self.say(f"book {name}\na name {name}")
            self.say(f"show {name}", f"a name {name}")

    def test_rules(self):
        self.say("book ours\n" + BOOK)
        self.say("groups ours", "ann / bo / bob")
        self.say("rules\n# one\n\nfor 5 name same\n")
        self.say("groups ours", "ann / bo bob")
        self.say("rules\nfor 1 way same\nagainst 5 name same")
        self.say("groups ours", "ann / bo / bob")
        for text in ("rules", "rules\n", "rules\n# none"):
            self.say("rules\nfor 5 name same")
            self.say("groups ours", "ann / bo bob")
            self.say(text)
            self.say("groups ours", "ann / bo / bob")

    def test_pour(self):
        self.say("book base\na name A\na way old\nb name B")
        self.say("book one\na name A\na way new\nb name B")
        self.say("book other\na name A\na way old\nc name C")
        self.say("pour whole base one other")
        self.say("show whole", "a name A\na way new\nc name C")
        self.say("pour turned base other one")
        self.say("show turned", "a name A\na way new\nc name C")
        for name, text in (("base", "a name A\na way old\nb name B"), ("one", "a name A\na way new\nb name B")):
            self.say("show " + name, text)

    def test_pour_by_a_name_that_stands(self):
        self.say("book base\na name A")
        self.say("book one\na name A\nb name B")
        self.say("book other\na name X")
        self.say("pour one base one other")
        self.say("show one", "a name X\nb name B")
        self.say("pour base base one base")
        self.say("show base", "a name X\nb name B")
        self.say("show other", "a name X")

    def test_the_poured_book_is_one_of_its_own(self):
        self.say("book base\na name A\nb name B")
        self.say("pour new base base base")
        self.say("hold new a b")
        self.say("show base", "a name A\nb name B")
        self.say("show new", "a name A\na same b\nb name B")

    def test_groups_and_loss(self):
        self.say("book ours")
        self.say("groups ours", "")
        self.say("loss ours", "0")
        self.say("book ours\na name A")
        self.say("groups ours", "a")
        self.say("book ours\nann name Ann\nanna name Ann\nanna name Anne\nanne name Anne\nbo name Bo\nann day 1\nanne day 2")
        self.say("rules\nfor 8 name same\nagainst 3 day other")
        self.say("groups ours", "ann anna anne / bo")
        self.say("loss ours", "3")
        self.say("rules\nfor 1000000000 name same\nagainst 1000000000 day other\nagainst 1 day other")
        self.say("groups ours", "ann anna / anne / bo")
        self.say("loss ours", "1000000000")

    def test_told(self):
        self.say("rules\nfor 5 name same")
        self.say("book ours\n" + BOOK)
        self.say("told ours bo", "name Bo; bo bob\nway x; bob")
        self.say("told ours bob", "name Bo; bo bob\nway x; bob")
        self.say("told ours ann", "name Ann; ann")
        self.say("book ours\na same b\nc mark a; b\nc day 1\nc former F")
        self.say("told ours a", "")
        self.say("told ours b", "")
        self.say("told ours c", "former F; c\nday 1; c\nmark a; b; c")

    def test_hold_part_and_free(self):
        self.say("book ours\nb name B\na name A")
        for one, other in (("a", "b"), ("b", "a")):
            self.say(f"hold ours {one} {other}")
            self.say("show ours", "a name A\na same b\nb name B")
            self.say("groups ours", "a b")
            self.say(f"part ours {one} {other}")
            self.say("show ours", "a apart b\na name A\nb name B")
            self.say("groups ours", "a / b")
            self.say(f"hold ours {one} {other}")
            self.say("show ours", "a name A\na same b\nb name B")
            self.say(f"free ours {one} {other}")
            self.say("show ours", "a name A\nb name B")
            self.say(f"part ours {one} {other}")
            self.say(f"free ours {one} {other}")
            self.say("show ours", "a name A\nb name B")

    def test_a_hand_may_set_a_book_at_odds(self):
        self.say("book ours\na same b\nb same c")
        self.say("part ours a c")
        self.refused(Odds, "groups ours", ["a", "b", "c"])
        self.say("free ours c a")
        self.say("groups ours", "a b c")

    def test_right(self):
        self.say("rules\nfor 5 name same")
        self.say("book ours\n" + BOOK)
        self.say("right ours bo name\nBo\nBob")
        self.say("show ours", "ann name Ann\nbo name Bob\nbob name Bob\nbob way x")
        self.say("right ours bo way\nx\ny  z")
        self.say("show ours", "ann name Ann\nbo name Bob\nbob name Bob\nbob way y  z")
        self.say("right ours ann name\nAnn\nBob\n\n    \n")
        self.say("show ours", "ann name Bob\nbo name Bob\nbob name Bob\nbob way y  z")
        self.say("right ours ann name\nBob\nBob")
        self.say("show ours", "ann name Bob\nbo name Bob\nbob name Bob\nbob way y  z")

    def test_right_in_the_cards_group_alone(self):
        self.say("book ours\na name X\nb name X\nc name X\na same c")
        self.say("right ours c name\nX\nY")
        self.say("show ours", "a name Y\na same c\nb name X\nc name Y")

    def test_right_by_rows_that_begin_with_a_number_sign(self):
        self.say("book ours\na mark #1")
        self.say("right ours a mark\n#1\n#2")
        self.say("show ours", "a mark #2")
        self.say("right ours a mark\n#2\nb")
        self.say("show ours", "a mark b")
        self.say("right ours a mark\nb\n#")
        self.say("show ours", "a mark #")

    def test_right_in_each_field(self):
        for field in FIELDS:
            self.say(f"book ours\na {field} x")
            self.say(f"right ours a {field}\nx\n" + "y" * 40)
            self.say("show ours", f"a {field} " + "y" * 40)

    def test_blank_rows_behind_are_let_by(self):
        self.with_books()
        for text, told in (("show none", ""), ("groups none", ""), ("loss none", "0"), ("told ours ann", "name Ann; ann")):
            for behind in ("\n", "\n\n", "\n   ", "\n  \n\n "):
                self.say(text + behind, told)
        for text in ("pour none none none none", "hold ours ann bo", "part ours ann bo", "free ours ann bo"):
            self.say(text + "\n   \n")
        self.say("show ours", SHOWN)

    def test_two_desks(self):
        other = Desk()
        self.say("book ours\n" + BOOK)
        self.say("rules\nfor 5 name same")
        with self.assertRaises(NoName):
            other.say("show ours")
        other.say("book ours\n" + BOOK)
        self.assertEqual(other.say("groups ours"), "ann / bo / bob")
        self.say("groups ours", "ann / bo bob")


class TestFirstRow(Asked):
    WRONG = (
        "",
        " ",
        "\n",
        "\nbook ours",
        "# note",
        "hello",
        "book",
        "books ours",
        "Book ours",
        "BOOK ours",
        "book ours theirs",
        "book  ours",
        " book ours",
        "book ours ",
        "book ",
        "book Ours",
        "book ours1",
        "book 1",
        "book ours-a",
        "book #",
        "book abcdefghijklm",
        "rules ours",
        "rules ",
        " rules",
        "Rules",
        "rule",
        "show",
        "show ours ours",
        "show  ours",
        "show ours ",
        " show ours",
        "show OURS",
        "show abcdefghijklm",
        "pour",
        "pour a ours ours",
        "pour a ours ours ours ours",
        "pour a  ours ours ours",
        "pour A ours ours ours",
        "pour a Ours ours ours",
        "pour a ours 1 ours",
        "pour a ours ours abcdefghijklm",
        "groups",
        "groups ours ann",
        "groups ours ",
        "group ours",
        "loss",
        "loss ours ann",
        "loss  ours",
        "told ours",
        "told",
        "told ours ann bo",
        "told ours Ann",
        "told ours ann1",
        "told ours ann ",
        "told ours  ann",
        "told ours abcdefghijklm",
        "hold ours ann",
        "hold ours ann bo bob",
        "hold ours ann Bo",
        "hold ours ann  bo",
        "hold ours",
        "part ours ann",
        "part ours ann bo bob",
        "part ours 1 bo",
        " part ours ann bo",
        "free ours ann",
        "free ours ann bo bob",
        "free ours ann bo ",
        "free ours ann abcdefghijklm",
        "right ours ann",
        "right ours ann name Ann",
        "right ours ann Name",
        "right ours ann names",
        "right ours ann same",
        "right ours ann apart",
        "right ours ann  name",
        "right ours Ann name",
        "right Ours ann name",
        "right ours ann name ",
        "right ours name",
    )

    def test_wrong_first_rows(self):
        self.with_books()
        before = self.state()
        for row in self.WRONG:
            for behind in ("", "\n", "\nann name X", "\nAnn\nBo", "\nwrong"):
                self.refused(NoRow, row + behind, 1)
        self.assertEqual(self.state(), before)

    def test_wrong_first_rows_at_an_empty_desk(self):
        for row in self.WRONG:
            self.refused(NoRow, row, 1)

    def test_a_wrong_first_row_goes_ahead_of_all_else(self):
        self.refused(NoRow, "show gone Bo\nmore", 1)
        self.refused(NoRow, "told gone Ann\nmore", 1)
        self.refused(NoRow, "right gone ann names", 1)


class TestRowsBehind(Asked):
    def test_rows_behind_an_order_that_takes_none(self):
        self.with_books()
        before = self.state()
        for text in (
            "show ours", "pour ours ours none none", "groups ours", "loss ours", "told ours ann",
            "hold ours ann bo", "part ours ann bo", "free ours ann bo",
        ):
            self.refused(NoRow, text + "\nx", 2)
            self.refused(NoRow, text + "\n#", 2)
            self.refused(NoRow, text + "\n # x", 2)
            self.refused(NoRow, text + "\n\n   \nann name Ann", 4)
            self.refused(NoRow, text + "\n\nx\ny", 3)
        self.assertEqual(self.state(), before)

    def test_they_go_ahead_of_names_and_of_what_is_behind(self):
        self.refused(NoRow, "show gone\nx", 2)
        self.refused(NoRow, "pour a gone gone gone\n\nx", 3)
        self.with_books()
        self.refused(NoRow, "groups odd\nx", 2)
        self.refused(NoRow, "loss many\nx", 2)
        self.refused(NoRow, "hold ours ann gone\nx", 2)

    def test_wrong_rows_of_a_book(self):
        self.with_books()
        before = self.state()
        self.refused(NoRow, "book ours\nwrong", 2)
        self.refused(NoRow, "book ours\nann name X\n\n#\nann name", 5)
        self.refused(NoRow, "book ours\nann same ann\nwrong", 2)
        self.refused(NoRow, "book ours\n Ann name X", 2)
        self.refused(NoRow, "book new\nann name X\nwrong", 3)
        self.refused(NoName, "show new", "new")
        self.assertEqual(self.state(), before)

    def test_wrong_rows_of_rules(self):
        self.with_books()
        before = self.state()
        self.refused(NoRow, "rules\nwrong", 2)
        self.refused(NoRow, "rules\nagainst 9 name same\n\n#\nfor 0 name same", 5)
        self.refused(NoRow, "rules\nagainst 9 name same\nfor 1 way former\nwrong", 3)
        self.assertEqual(self.state(), before)


class TestNames(Asked):
    def test_no_book_stands_at_first(self):
        for text in (
            "show gone", "groups gone", "loss gone", "told gone ann", "hold gone a b", "part gone a b",
            "free gone a b", "right gone ann name\nAnn\nBo", "pour new gone gone gone",
        ):
            self.refused(NoName, text, "gone")

    def test_the_first_name_in_the_row(self):
        self.say("book here")
        self.refused(NoName, "pour new a b c", "a")
        self.refused(NoName, "pour new here b c", "b")
        self.refused(NoName, "pour new here here c", "c")
        self.refused(NoName, "pour new here b here", "b")
        self.refused(NoName, "pour new new here here", "new")
        self.refused(NoName, "show new", "new")

    def test_names_of_cards_are_no_names_of_books(self):
        self.say("book here\na name A\nb name B")
        self.refused(NoName, "show a", "a")
        self.refused(NoPair, "told here here")

    def test_they_go_ahead_of_what_is_behind(self):
        self.refused(NoName, "right gone ann name", "gone")
        self.refused(NoName, "right gone ann name\n \nx\nx", "gone")
        self.refused(NoName, "hold gone a a", "gone")


class TestRefused(Asked):
    def setUp(self):
        super().setUp()
        self.with_books()
        self.before = self.state()

    def tearDown(self):
        self.assertEqual(self.state(), self.before)

    def test_odds(self):
        for text in ("groups odd", "loss odd", "told odd a", "told odd gone", "right odd a name\nX\nY"):
            self.refused(Odds, text, ["a", "b", "c"])
        self.refused(Odds, "right odd gone name\nX\nY", ["a", "b", "c"])

    def test_too_many(self):
        for text in ("groups many", "loss many", "told many a", "told many gone", "right many a name\nX\nY"):
            self.refused(TooMany, text, 9)
        self.refused(TooMany, "right many gone name\nX\nY", 9)
        self.refused(TooMany, "right many a day\nX\nY", 9)

    def test_odds_ahead_of_too_many(self):
        self.say("book both\n" + MANY + "\ny same z\ny apart z")
        for text in ("groups both", "loss both", "told both gone", "right both gone name\nX\nY"):
            self.refused(Odds, text, ["y", "z"])

    def test_no_pair(self):
        for text in (
            "told ours gone", "told none ann", "right ours gone name\nBo\nBob", "right none ann name\nBo\nBob",
            "hold ours ann gone", "hold ours gone ann", "hold ours ann ann", "hold none ann bo",
            "part ours ann gone", "part ours gone ann", "part ours ann ann", "part ours gone gone",
            "free ours ann gone", "free ours gone ann", "free ours ann ann", "free none ann bo",
        ):
            self.refused(NoPair, text)

    def test_hold_part_and_free_do_not_ask_for_groups(self):
        for order in ("hold", "part", "free"):
            self.say("book again\n" + AT_ODDS + "\nd name D")
            self.say(f"{order} again a d")
            self.refused(NoPair, f"{order} odd a gone")
            self.refused(NoPair, f"{order} many a a")

    def test_no_text(self):
        for text in (
            "right ours ann name\nBo\nBob", "right ours bo day\nBo\nBob", "right ours bo name\nbo\nBob",
            "right ours ann way\nx\ny",
        ):
            self.refused(NoText, text)

    def test_no_pair_ahead_of_no_text(self):
        self.refused(NoPair, "right ours gone day\nnothing\nnew")

    def test_rows_of_right(self):
        for text, row in (
            ("right ours bo name", 2),
            ("right ours bo name\n", 2),
            ("right ours bo name\n   \nBob", 2),
            ("right ours bo name\n\nBo\nBob", 2),
            ("right ours bo name\n Bo\nBob", 2),
            ("right ours bo name\nBo \nBob", 2),
            ("right ours bo name\n" + "x" * 41 + "\nBob", 2),
            ("right ours bo name\n\n\nmore", 2),
            ("right ours bo name\nBo", 3),
            ("right ours bo name\nBo\n", 3),
            ("right ours bo name\nBo\n  ", 3),
            ("right ours bo name\nBo\n\nBob", 3),
            ("right ours bo name\nBo\n Bob", 3),
            ("right ours bo name\nBo\nBob ", 3),
            ("right ours bo name\nBo\n" + "x" * 41, 3),
            ("right ours bo name\nBo\n \nmore", 3),
            ("right ours bo name\nBo\nBob\nmore", 4),
            ("right ours bo name\nBo\nBob\n\n   \nmore\nmore", 6),
            ("right ours bo name\nBo\nBob\n#", 4),
            ("right ours bo name\nBo\nBob\n\n # note", 5),
        ):
            self.refused(NoRow, text, row)

    def test_rows_of_right_go_ahead_of_what_is_behind(self):
        for name in ("odd", "many", "ours"):
            self.refused(NoRow, f"right {name} gone name", 2)
            self.refused(NoRow, f"right {name} gone name\nnothing", 3)
            self.refused(NoRow, f"right {name} gone name\nnothing\nnew\nmore", 4)


class TestWhatIsKept(Asked):
    def test_a_refusal_between_changes_nothing(self):
        self.with_books()
        before = self.state()
        for text in (
            "", "book", "rules x", "book ours\nwrong", "rules\nagainst 50 name same\nwrong", "pour ours gone ours ours",
            "pour ours ours none none\nx", "hold ours ann gone", "part ours bo bo", "free ours gone bo",
            "right ours bo name\nnone\nBob", "right ours bo name\nBo\nBob\nmore", "right odd a name\nX\nY",
        ):
            with self.assertRaises((NoRow, NoName, NoPair, NoText, Odds)):
                self.desk.say(text)
            self.assertEqual(self.state(), before)

    def test_a_chain_that_is_told_is_the_askers_own(self):
        self.with_books()
        with self.assertRaises(Odds) as taken:
            self.desk.say("groups odd")
        taken.exception.chain.clear()
        self.refused(Odds, "groups odd", ["a", "b", "c"])

    def test_a_book_of_many_rows(self):
        rows = [f"card mark {number}" for number in range(3000)]
        self.say("book big\n" + "\n".join(rows))
        self.say("show big", "\n".join(sorted(rows)))
        self.refused(NoRow, "book big\n" + "\n".join(rows) + "\nwrong", 3002)


if __name__ == "__main__":
    unittest.main()
