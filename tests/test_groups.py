import itertools
import unittest

from folk.best import best_of
from folk.blocks import blocks_of
from folk.errors import Odds, TooMany
from folk.facts import texts_of
from folk.groups import book_case, book_loss, groups_of, texts_told
from folk.notes import read_book
from folk.rules import read_rules
from folk.weights import weight_of
from samples import FIELDS, drawn_book

RULES = read_rules("for 6 name same\nfor 2 name near\nagainst 5 day other\nfor 4 way like\nagainst 3 mark same")
NAMES = [first + second for first in "abcde" for second in "stuvwxyz"]


def case_by_words(rules, book):
    blocks = blocks_of(book)
    pairs = []
    aparts = []
    for (i, one), (j, other) in itertools.combinations(enumerate(blocks), 2):
        crossing = list(itertools.product(one, other))
        weight = sum(weight_of(rules, book, first, second) for first, second in crossing)
        if weight != 0:
            pairs.append((i, j, weight))
        if any((*sorted(pair)[:1], "apart", *sorted(pair)[1:]) in book for pair in crossing):
            aparts.append((i, j))
    return (len(blocks), pairs, aparts)


class TestBookCase(unittest.TestCase):
    def test_a_book_without_facts(self):
        self.assertEqual(book_case([], []), (0, [], []))
        self.assertEqual(book_case(RULES, []), (0, [], []))

    def test_no_rules(self):
        book = read_book("a name X\nb name X\nc apart d\nd same e")
        self.assertEqual(book_case([], book), (4, [], [(2, 3)]))

    def test_blocks_of_one_card(self):
        book = read_book("a name X\nb name X\nc name Xy")
        self.assertEqual(book_case(RULES, book), (3, [(0, 1, 8), (0, 2, 2), (1, 2, 2)], []))

    def test_sums_over_the_cards_of_two_blocks(self):
        book = read_book("a name X\na same d\nb name X\nb same c\nc name X\nd name X")
        self.assertEqual(book_case(read_rules("for 3 name same"), book), (2, [(0, 1, 12)], []))

    def test_weights_inside_a_block_do_not_count(self):
        book = read_book("a day 1\na same b\nb day 2\nc day 1")
        self.assertEqual(book_case(read_rules("against 5 day other"), book), (2, [(0, 1, -5)], []))
        self.assertEqual(book_case(read_rules("for 7 day same"), book), (2, [(0, 1, 7)], []))

    def test_sums_that_come_to_nought(self):
        book = read_book("a day 1\na same b\nb day 2\nc day 1")
        self.assertEqual(book_case(read_rules("for 5 day same\nagainst 5 day other"), book), (2, [], []))

    def test_aparts_between_cards_of_two_blocks(self):
        book = read_book("a same d\nb same c\nb apart d\na apart c\nc apart e\na name X")
        self.assertEqual(book_case([], book), (3, [], [(0, 1), (1, 2)]))

    def test_an_apart_whose_cards_stand_in_the_other_order_of_blocks(self):
        # z's block comes ahead of m's, though m comes ahead of z.
        book = read_book("a same z\nm apart z\nm name X")
        self.assertEqual(book_case([], book), (2, [], [(0, 1)]))
        book = read_book("a same z\nm name X\nz name X")
        self.assertEqual(book_case(read_rules("for 1 name same"), book), (2, [(0, 1, 1)], []))

    def test_numbered_in_the_order_of_the_blocks(self):
        book = read_book("b name X\na same z\nc name X\nc same y\nd apart b\nz name X")
        self.assertEqual(book_case(read_rules("for 1 name same"), book), (4, [(0, 1, 1), (0, 2, 1), (1, 2, 1)], [(1, 3)]))

    def test_odds(self):
        with self.assertRaises(Odds) as taken:
            book_case(RULES, read_book("a same b\nb same c\na apart c"))
        self.assertEqual(taken.exception.chain, ["a", "b", "c"])

    def test_drawn_books(self):
        for number in range(200):
            book = drawn_book(number, number % 14)
            try:
                blocks_of(book)
            except Odds:
                for ask in (book_case, groups_of, book_loss):
                    with self.assertRaises(Odds):
                        ask(RULES, book)
                continue
            self.assertEqual(book_case(RULES, book), case_by_words(RULES, book))

    def test_what_is_handed_in_stays_and_lists_are_new(self):
        rules, book = list(RULES), read_book("a name X\nb name X\nb apart c")
        kept = (list(rules), list(book))
        told = book_case(rules, book)
        again = book_case(rules, book)
        self.assertEqual((rules, book), kept)
        self.assertIs(type(told), tuple)
        for place in (1, 2):
            self.assertIsNot(told[place], again[place])
            told[place].clear()
        self.assertEqual(again, (3, [(0, 1, 8)], [(1, 2)]))
        self.assertEqual(book_case(rules, book), again)


class TestGroups(unittest.TestCase):
    def test_a_book_without_facts(self):
        self.assertEqual(groups_of([], []), [])
        self.assertEqual(groups_of(RULES, []), [])
        self.assertEqual(book_loss([], []), 0)

    def test_no_rules(self):
        book = read_book("a name X\nb name X\nc same d\nb apart d")
        self.assertEqual(groups_of([], book), [["a"], ["b"], ["c", "d"]])
        self.assertEqual(book_loss([], book), 0)

    def test_ordinary(self):
        book = read_book("bo name Bo\nann name Ann Cox\nanna name Ann Cox\nzed name Bo\nanna day 1\nann day 2\nbo day 1\nzed day 1")
        self.assertEqual(groups_of(RULES, book), [["ann", "anna"], ["bo", "zed"]])
        self.assertEqual(book_loss(RULES, book), 0)

    def test_rules_that_do_not_agree(self):
        # The pairs weigh 8, 8 and, for ann and anne, 2 - 5.
        book = read_book("ann name Ann\nann day 1\nanna name Ann\nanna name Anne\nanne name Anne\nanne day 2")
        self.assertEqual(groups_of(RULES, book), [["ann", "anna", "anne"]])
        self.assertEqual(book_loss(RULES, book), 3)

    def test_a_hand_that_parts_what_the_rules_join(self):
        book = read_book("a name X\nb name X\na apart b")
        self.assertEqual(groups_of(RULES, book), [["a"], ["b"]])
        self.assertEqual(book_loss(RULES, book), 8)

    def test_a_hand_that_joins_what_the_rules_part(self):
        book = read_book("a day 1\nb day 2\na same b")
        self.assertEqual(groups_of(RULES, book), [["a", "b"]])
        self.assertEqual(book_loss(RULES, book), 0)

    def test_what_speaks_inside_a_block_is_not_in_the_loss(self):
        book = read_book("a day 1\nb day 2\na same b\nc day 2\nc way x\na way X")
        self.assertEqual(groups_of(read_rules("against 5 day other\nfor 9 way like"), book), [["a", "b", "c"]])
        self.assertEqual(book_loss(read_rules("against 5 day other\nfor 9 way like"), book), 0)

    def test_groups_are_sorted_though_blocks_are_woven(self):
        book = read_book("a same f\nb same e\nc name X\nd name Y\nf name X\ne name Y")
        self.assertEqual(groups_of(read_rules("for 1 name same"), book), [["a", "c", "f"], ["b", "d", "e"]])

    def test_seven_blocks_and_eight(self):
        rules = read_rules("for 1 name same")
        seven = [(name, "name", "X") for name in NAMES[:7]]
        self.assertEqual(groups_of(rules, seven), [NAMES[:7]])
        self.assertEqual(book_loss(rules, seven), 0)
        eight = [(name, "name", "X") for name in NAMES[:8]]
        for ask in (groups_of, book_loss):
            with self.assertRaises(TooMany) as taken:
                ask(rules, eight)
            self.assertEqual(taken.exception.count, 8)
        self.assertEqual(book_case(rules, eight)[0], 8)
        joined = sorted(eight + [(NAMES[0], "same", NAMES[7])])
        self.assertEqual(groups_of(rules, joined), [NAMES[:8]])

    def test_odds_goes_ahead_of_too_many(self):
        rules = read_rules("for 1 name same")
        book = [(name, "name", "X") for name in NAMES[:12]]
        at_odds = sorted(book + [("y", "apart", "z"), ("y", "same", "z")])
        for ask in (groups_of, book_loss):
            with self.assertRaises(TooMany) as taken:
                ask(rules, book)
            self.assertEqual(taken.exception.count, 12)
            with self.assertRaises(Odds) as taken:
                ask(rules, at_odds)
            self.assertEqual(taken.exception.chain, ["y", "z"])

    def test_forty_cards(self):
        book = [(name, "name", "N" + str(place // 5)) for place, name in enumerate(NAMES)]
        told = [NAMES[place:place + 5] for place in range(0, 40, 5)]
        self.assertEqual(groups_of(read_rules("for 1 name same\nagainst 1 name other"), book), told)

    def test_drawn_books(self):
        for number in range(150):
            book = drawn_book(number, number % 14)
            try:
                blocks = blocks_of(book)
            except Odds:
                continue
            loss, grouping = best_of(*case_by_words(RULES, book))
            self.assertEqual(book_loss(RULES, book), loss)
            groups = [
                sorted(card for block, number in zip(blocks, grouping) if number == group for card in block)
                for group in sorted(set(grouping))
            ]
            self.assertEqual(groups_of(RULES, book), sorted(groups))

    def test_what_is_handed_in_stays_and_lists_are_new(self):
        rules, book = list(RULES), read_book("a name X\nb name X\nc name Yz")
        kept = (list(rules), list(book))
        told = groups_of(rules, book)
        again = groups_of(rules, book)
        self.assertEqual((rules, book), kept)
        for group in told:
            self.assertEqual(len([other for other in told + again if other is group]), 1)
        told[0].clear()
        told.clear()
        self.assertEqual(again, [["a", "b"], ["c"]])
        self.assertEqual(groups_of(rules, book), again)
        book_loss(rules, book)
        self.assertEqual((rules, book), kept)


class TestTextsTold(unittest.TestCase):
    BOOK = read_book(
        "bo name Bo\nbob name Bo\nbob name Bob\nbo way x\nbob day 1\nbo mark #\nbob former Rob\nbo former Rob\n"
        "cy name Bo\nbo same bob\nbo apart cy\nbo name Abe"
    )

    def test_all_fields_in_their_order(self):
        told = [
            ("name", "Abe", ["bo"]),
            ("name", "Bo", ["bo", "bob"]),
            ("name", "Bob", ["bob"]),
            ("former", "Rob", ["bo", "bob"]),
            ("way", "x", ["bo"]),
            ("day", "1", ["bob"]),
            ("mark", "#", ["bo"]),
        ]
        self.assertEqual(texts_told(self.BOOK, ["bo", "bob"]), told)
        self.assertEqual(texts_told(self.BOOK, ["bob", "bo"]), told)

    def test_one_card_and_none(self):
        self.assertEqual(texts_told(self.BOOK, ["cy"]), [("name", "Bo", ["cy"])])
        self.assertEqual(texts_told(self.BOOK, []), [])
        self.assertEqual(texts_told([], []), [])

    def test_all_cards_in_any_order(self):
        for group in itertools.permutations(["bo", "bob", "cy"]):
            told = texts_told(self.BOOK, list(group))
            self.assertEqual(told[1], ("name", "Bo", ["bo", "bob", "cy"]))
            self.assertEqual(len(told), 7)

    def test_cards_that_have_no_text(self):
        self.assertEqual(texts_told([("a", "same", "b")], ["a", "b"]), [])

    def test_texts_that_are_like_stay_two(self):
        book = read_book("a name Ann\nb name ann")
        self.assertEqual(texts_told(book, ["b", "a"]), [("name", "Ann", ["a"]), ("name", "ann", ["b"])])

    def test_one_text_in_two_fields(self):
        book = read_book("a name X\nb way X")
        self.assertEqual(texts_told(book, ["a", "b"]), [("name", "X", ["a"]), ("way", "X", ["b"])])

    def test_drawn_books(self):
        for number in range(80):
            book = drawn_book(number, 25)
            for many in range(5):
                group = ["c", "ab", "zed", "a"][:many]
                told = texts_told(book, group)
                by_words = []
                for field in FIELDS:
                    texts = sorted({text for card in group for text in texts_of(book, card, field)})
                    for text in texts:
                        by_words.append((field, text, sorted(card for card in group if (card, field, text) in book)))
                self.assertEqual(told, by_words)

    def test_what_is_handed_in_stays_and_lists_are_new(self):
        book, group = list(self.BOOK), ["bob", "bo"]
        told = texts_told(book, group)
        again = texts_told(book, group)
        self.assertEqual((book, group), (self.BOOK, ["bob", "bo"]))
        lists = [cards for _, _, cards in told + again]
        self.assertEqual(len({id(cards) for cards in lists}), len(lists))
        self.assertFalse(any(cards is group for cards in lists))
        for one in told:
            self.assertIs(type(one), tuple)
            one[2].clear()
        told.clear()
        self.assertEqual(again[1], ("name", "Bo", ["bo", "bob"]))
        self.assertEqual(texts_told(book, group), again)


if __name__ == "__main__":
    unittest.main()
