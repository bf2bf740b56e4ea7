import itertools
import unittest

from folk.pouring import changed_by, changes_of, poured, poured_all
from samples import drawn_book, subsets

A, B, C, D = ("a", "name", "A"), ("a", "same", "b"), ("b", "name", "A"), ("b", "way", "x")
ALL = [A, B, C, D]


def poured_by_words(base, sides):
    """The poured book, fact by fact as the document says it."""
    facts = sorted({fact for book in [base] + sides for fact in book})
    return [
        fact for fact in facts
        if (all(fact in side for side in sides) if fact in base else any(fact in side for side in sides))
    ]


class TestChanges(unittest.TestCase):
    def test_to_itself(self):
        for book in subsets(ALL):
            self.assertEqual(changes_of(book, book), [])
            self.assertEqual(changes_of(book, list(book)), [])

    def test_both_signs_sorted_by_facts(self):
        self.assertEqual(changes_of([A, C], [B, D]), [("-", A), ("+", B), ("-", C), ("+", D)])
        self.assertEqual(changes_of([B, D], [A, C]), [("+", A), ("-", B), ("+", C), ("-", D)])

    def test_one_sign(self):
        self.assertEqual(changes_of([], [A, B]), [("+", A), ("+", B)])
        self.assertEqual(changes_of([A, B], []), [("-", A), ("-", B)])
        self.assertEqual(changes_of([], []), [])

    def test_what_both_have_is_no_change(self):
        self.assertEqual(changes_of([A, B, C], [A, C, D]), [("-", B), ("+", D)])

    def test_a_text_changed_is_two_changes(self):
        self.assertEqual(
            changes_of([("a", "name", "Ann")], [("a", "name", "Anna")]),
            [("-", ("a", "name", "Ann")), ("+", ("a", "name", "Anna"))],
        )

    def test_drawn_books(self):
        for number in range(150):
            one = drawn_book(number, number % 30)
            other = drawn_book(1000 + number, 20)
            told = [("-", fact) for fact in one if fact not in other] + [("+", fact) for fact in other if fact not in one]
            self.assertEqual(changes_of(one, other), sorted(told, key=lambda change: change[1]))
            self.assertEqual(changed_by(one, changes_of(one, other)), other)

    def test_what_is_handed_in_stays_and_lists_are_new(self):
        one, other = [A, B], [B, C]
        told = changes_of(one, other)
        again = changes_of(one, other)
        self.assertEqual((one, other), ([A, B], [B, C]))
        self.assertIsNot(told, again)
        self.assertIs(type(told[0]), tuple)
        told.clear()
        self.assertEqual(again, [("-", A), ("+", C)])
        self.assertEqual(changes_of(one, other), again)


class TestChangedBy(unittest.TestCase):
    def test_by_no_change(self):
        for book in subsets(ALL):
            self.assertEqual(changed_by(book, []), book)
            self.assertIsNot(changed_by(book, []), book)

    def test_facts_that_go(self):
        self.assertEqual(changed_by([A, B, C], [("-", B)]), [A, C])
        self.assertEqual(changed_by([A], [("-", A)]), [])

    def test_facts_that_come(self):
        self.assertEqual(changed_by([A, C], [("+", B)]), [A, B, C])
        self.assertEqual(changed_by([], [("+", A), ("+", D)]), [A, D])

    def test_facts_that_go_and_are_not_there(self):
        self.assertEqual(changed_by([A, C], [("-", B), ("-", D)]), [A, C])
        self.assertEqual(changed_by([], [("-", A)]), [])

    def test_facts_that_come_and_are_there(self):
        self.assertEqual(changed_by([A, C], [("+", A), ("+", C)]), [A, C])

    def test_a_book_by_the_changes_of_any_two(self):
        books = subsets(ALL)
        for book, one, other in itertools.product(books, books, books):
            told = [
                fact for fact in ALL
                if (fact in other if (fact in one) != (fact in other) else fact in book)
            ]
            self.assertEqual(changed_by(book, changes_of(one, other)), told)

    def test_what_is_handed_in_stays(self):
        book, some = [A, B], [("-", A), ("+", C)]
        told = changed_by(book, some)
        self.assertEqual((book, some), ([A, B], [("-", A), ("+", C)]))
        again = changed_by(book, some)
        self.assertIsNot(told, again)
        told.clear()
        self.assertEqual(again, [B, C])


class TestPoured(unittest.TestCase):
    def test_a_fact_of_the_base(self):
        self.assertEqual(poured([A], [A], [A]), [A])
        self.assertEqual(poured([A], [A], []), [])
        self.assertEqual(poured([A], [], [A]), [])
        self.assertEqual(poured([A], [], []), [])

    def test_a_fact_that_the_base_lacks(self):
        self.assertEqual(poured([], [A], [A]), [A])
        self.assertEqual(poured([], [A], []), [A])
        self.assertEqual(poured([], [], [A]), [A])
        self.assertEqual(poured([], [], []), [])

    def test_ordinary(self):
        base = [("ann", "name", "Ann"), ("ann", "way", "old"), ("bo", "name", "Bo")]
        one = [("ann", "name", "Ann"), ("ann", "way", "new"), ("bo", "name", "Bo"), ("cy", "name", "Cy")]
        other = [("ann", "day", "1"), ("ann", "name", "Ann"), ("ann", "way", "old")]
        self.assertEqual(
            poured(base, one, other),
            [("ann", "day", "1"), ("ann", "name", "Ann"), ("ann", "way", "new"), ("cy", "name", "Cy")],
        )

    def test_all_small_books(self):
        books = subsets([A, B, C])
        for base, one, other in itertools.product(books, books, books):
            told = poured(base, one, other)
            self.assertEqual(told, poured_by_words(base, [one, other]))
            self.assertEqual(poured(base, other, one), told)
            self.assertEqual(poured(base, told, one), told)
            self.assertEqual(poured(base, told, other), told)
            self.assertEqual(poured(base, told, told), told)
            self.assertEqual(poured_all(base, [one, other]), told)

    def test_a_side_that_changed_nothing(self):
        for base, one in itertools.product(subsets(ALL), subsets(ALL)):
            self.assertEqual(poured(base, one, base), one)
            self.assertEqual(poured(base, base, one), one)

    def test_it_is_a_book(self):
        told = poured([C], [A, C, D], [B, C])
        self.assertEqual(told, [A, B, C, D])

    def test_what_is_handed_in_stays_and_lists_are_new(self):
        for base, one, other in (([A, B], [A, C], [A, D]), ([A], [A], [A]), ([], [], [])):
            kept = (list(base), list(one), list(other))
            told = poured(base, one, other)
            self.assertEqual((base, one, other), kept)
            for book in (base, one, other):
                self.assertIsNot(told, book)
            again = poured(base, one, other)
            self.assertIsNot(told, again)
            told.append("x")
            self.assertEqual((base, one, other), kept)
            self.assertEqual(poured(base, one, other), again)


class TestPouredAll(unittest.TestCase):
    def test_by_no_side(self):
        for base in subsets(ALL):
            told = poured_all(base, [])
            self.assertEqual(told, base)
            self.assertIsNot(told, base)

    def test_by_one_side(self):
        for base, side in itertools.product(subsets(ALL), subsets(ALL)):
            told = poured_all(base, [side])
            self.assertEqual(told, side)
            self.assertIsNot(told, side)

    def test_a_side_told_twice(self):
        for base, one, other in itertools.product(subsets([A, B]), subsets([A, B]), subsets([A, B])):
            self.assertEqual(poured_all(base, [one, other, one]), poured_all(base, [one, other]))
            self.assertEqual(poured_all(base, [one, one]), one)

    def test_a_fact_of_the_base_that_one_of_three_lacks(self):
        self.assertEqual(poured_all([A], [[A], [A], [A]]), [A])
        self.assertEqual(poured_all([A], [[A], [], [A]]), [])

    def test_another_fact_that_one_of_three_has(self):
        self.assertEqual(poured_all([], [[], [], [A]]), [A])
        self.assertEqual(poured_all([], [[A], [], []]), [A])
        self.assertEqual(poured_all([], [[A], [B], [A, C]]), [A, B, C])

    def test_a_fact_gone_by_one_side_does_not_come_by_another(self):
        # Poured side by side in steps, the third side would bring the fact once more.
        self.assertEqual(poured_all([A, B], [[B], [A, B], [A, B, C]]), [B, C])

    def test_the_sides_in_every_order_and_once_more(self):
        for number in range(60):
            base = drawn_book(number, 12)
            sides = [drawn_book(100 * number + place + 7, 14) for place in range(4)]
            sides = [sorted(set(side) | set(base[place:])) for place, side in enumerate(sides)]
            told = poured_all(base, sides)
            self.assertEqual(told, poured_by_words(base, sides))
            for order in itertools.permutations(sides):
                self.assertEqual(poured_all(base, list(order)), told)
            for side in sides:
                self.assertEqual(poured_all(base, [told, side]), told)
                self.assertEqual(poured_all(base, [side, told]), told)
                self.assertEqual(poured(base, told, side), told)
            self.assertEqual(poured_all(base, sides + [told]), told)

    def test_many_sides(self):
        sides = [[("a", "mark", str(number).zfill(3))] for number in range(400)]
        self.assertEqual(poured_all([], sides), [side[0] for side in sides])

    def test_what_is_handed_in_stays_and_lists_are_new(self):
        base, sides = [A, B], [[A, C], [A, B, D]]
        told = poured_all(base, sides)
        self.assertEqual((base, sides), ([A, B], [[A, C], [A, B, D]]))
        again = poured_all(base, sides)
        self.assertIsNot(told, again)
        told.clear()
        self.assertEqual(again, [A, C, D])
        self.assertEqual(poured_all(base, sides), again)
        sides[0].clear()
        self.assertEqual(again, [A, C, D])


if __name__ == "__main__":
    unittest.main()
