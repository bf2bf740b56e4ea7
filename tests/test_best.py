import itertools
import unittest

from folk.best import best_of
from folk.cases import case_of, parts_of
from folk.errors import TooMany
from samples import all_groupings, drawn_case, keeps_by_words, loss_by_words, numbered

GROUPINGS = {many: all_groupings(many) for many in range(8)}
GREAT = 10 ** 29


def best_by_words(many, pairs, aparts):
    """The best grouping, found by going through all of them."""
    kept = [grouping for grouping in GROUPINGS[many] if keeps_by_words(aparts, grouping)]
    least = min(loss_by_words(pairs, grouping) for grouping in kept)
    kept = [grouping for grouping in kept if loss_by_words(pairs, grouping) == least]
    most = max(len(set(grouping)) for grouping in kept)
    return (least, min(grouping for grouping in kept if len(set(grouping)) == most))


class TestBest(unittest.TestCase):
    def test_the_groupings_gone_through_are_all(self):
        self.assertEqual([len(GROUPINGS[many]) for many in range(8)], [1, 1, 2, 5, 15, 52, 203, 877])
        for many in range(6):
            lists = [list(numbers) for numbers in itertools.product(range(many), repeat=many)]
            self.assertEqual(GROUPINGS[many], [numbers for numbers in lists if numbered(numbers) == numbers])

    def check(self, many, pairs, aparts):
        told = best_of(many, pairs, aparts)
        self.assertIs(type(told), tuple)
        self.assertIs(type(told[0]), int)
        self.assertIs(type(told[1]), list)
        self.assertEqual(told, best_by_words(many, pairs, aparts), (many, pairs, aparts))

    def refused(self, many, pairs, aparts, count):
        with self.assertRaises(TooMany) as taken:
            best_of(many, pairs, aparts)
        self.assertEqual(taken.exception.count, count)

    def test_no_block_and_one(self):
        self.assertEqual(best_of(0, [], []), (0, []))
        self.assertEqual(best_of(1, [], []), (0, [0]))

    def test_two_blocks(self):
        self.assertEqual(best_of(2, [], []), (0, [0, 1]))
        self.assertEqual(best_of(2, [(0, 1, 1)], []), (0, [0, 0]))
        self.assertEqual(best_of(2, [(0, 1, -1)], []), (0, [0, 1]))
        self.assertEqual(best_of(2, [(0, 1, 5)], [(0, 1)]), (5, [0, 1]))
        self.assertEqual(best_of(2, [(0, 1, -5)], [(0, 1)]), (0, [0, 1]))

    def test_the_least_loss(self):
        self.assertEqual(best_of(3, [(0, 1, 5), (0, 2, -3), (1, 2, 4)], []), (3, [0, 0, 0]))
        self.assertEqual(best_of(3, [(0, 1, 5), (0, 2, -9), (1, 2, 4)], []), (4, [0, 0, 1]))
        self.assertEqual(best_of(3, [(0, 1, 4), (0, 2, -9), (1, 2, 5)], []), (4, [0, 1, 1]))

    def test_of_several_the_most_groups(self):
        # All in one group loses as much as one link parted.
        self.assertEqual(best_of(3, [(0, 1, 4), (0, 2, -4), (1, 2, 5)], []), (4, [0, 1, 1]))
        self.assertEqual(best_of(4, [(0, 1, 2), (0, 2, -1), (0, 3, -1), (2, 3, 2), (1, 2, 2)], []), (2, [0, 0, 1, 1]))

    def test_of_several_such_the_least_list(self):
        self.assertEqual(best_of(3, [(0, 1, 4), (0, 2, -9), (1, 2, 4)], []), (4, [0, 0, 1]))
        self.assertEqual(best_of(3, [(0, 1, 4), (0, 2, 4), (1, 2, -9)], []), (4, [0, 0, 1]))
        self.assertEqual(best_of(3, [(0, 1, -9), (0, 2, 4), (1, 2, 4)], []), (4, [0, 1, 0]))

    def test_pairs_that_are_in_aparts(self):
        self.assertEqual(best_of(3, [(0, 1, 9), (0, 2, 2), (1, 2, 3)], [(0, 1)]), (11, [0, 1, 1]))
        self.assertEqual(best_of(3, [(0, 1, -9), (0, 2, 2), (1, 2, 3)], [(0, 1)]), (2, [0, 1, 1]))

    def test_aparts_within_a_part(self):
        self.assertEqual(best_of(4, [(0, 1, 3), (1, 2, 1), (2, 3, 3)], [(0, 3)]), (1, [0, 0, 1, 1]))
        self.assertEqual(best_of(4, [(0, 1, 3), (1, 2, 1), (2, 3, 3)], [(0, 2), (1, 3)]), (1, [0, 0, 1, 1]))

    def test_a_loss_between_parts_is_counted(self):
        self.assertEqual(best_of(4, [(0, 1, 7), (0, 2, 1), (1, 3, 1)], [(0, 1)]), (7, [0, 1, 0, 1]))

    def test_numbers_come_in_order_over_several_parts(self):
        self.assertEqual(best_of(5, [(0, 4, 1), (1, 3, 1)], []), (0, [0, 1, 2, 1, 0]))
        self.assertEqual(best_of(5, [(0, 3, 1), (1, 2, -1)], [(3, 4)]), (0, [0, 1, 2, 0, 3]))

    def test_all_small_cases(self):
        for many in range(4):
            places = list(itertools.combinations(range(many), 2))
            for weights in itertools.product((-2, -1, 0, 1, 2), repeat=len(places)):
                pairs = [(i, j, weight) for (i, j), weight in zip(places, weights) if weight != 0]
                for count in range(len(places) + 1):
                    for aparts in itertools.combinations(places, count):
                        self.check(many, pairs, list(aparts))

    def test_drawn_cases(self):
        for number in range(600):
            self.check(*drawn_case(number, 4 + number % 3, (1, 2, 6, GREAT)[number % 4]))

    def test_each_part_for_itself(self):
        for number in range(100):
            many, pairs, aparts = drawn_case(number, 6)
            grouping = best_of(many, pairs, aparts)[1]
            parts = parts_of(many, pairs, aparts)
            for part in parts:
                inner = best_of(*case_of(part, pairs, aparts))[1]
                self.assertEqual(numbered([grouping[block] for block in part]), inner)
            for one, other in itertools.combinations(parts, 2):
                self.assertFalse({grouping[block] for block in one} & {grouping[block] for block in other})

    def test_a_part_of_seven_blocks(self):
        row = [(i, i + 1, 2) for i in range(6)]
        self.assertEqual(best_of(7, row, []), (0, [0] * 7))
        self.assertEqual(best_of(7, sorted(row + [(0, 6, -1)]), []), (1, [0] * 7))
        self.assertEqual(best_of(7, sorted(row + [(0, 6, -3)]), []), (2, [0, 0, 0, 0, 0, 0, 1]))
        self.assertEqual(best_of(7, row, [(0, 6)]), (2, [0, 0, 0, 0, 0, 0, 1]))
        whole = [(i, j, 1 if (j - i) % 2 else -1) for i, j in itertools.combinations(range(7), 2)]
        least = min(loss_by_words(whole, grouping) for grouping in GROUPINGS[7])
        self.assertEqual(best_of(7, whole, [])[0], least)

    def test_drawn_cases_of_seven_blocks(self):
        for number in range(40):
            self.check(*drawn_case(number, 7, (1, 9, GREAT)[number % 3]))

    def test_a_part_of_eight_blocks(self):
        row = [(i, i + 1, 2) for i in range(7)]
        self.refused(8, row, [], 8)
        self.refused(10, [(i + 1, j + 1, weight) for i, j, weight in row], [], 8)
        self.refused(8, [(0, j, 1) for j in range(1, 8)], [], 8)
        self.refused(9, row + [(7, 8, 1)], [], 9)

    def test_two_parts_of_too_many(self):
        first = [(i, i + 1, 1) for i in range(8)]
        second = [(i, i + 1, 1) for i in range(9, 16)]
        self.refused(17, first + second, [], 9)
        turned = [(i, i + 1, 1) for i in range(7)] + [(i, i + 1, 1) for i in range(8, 16)]
        self.refused(17, turned, [], 8)
        # The first part is the one with the least block, not the one with the first pair told in full.
        woven = sorted([(i, i + 2, 1) for i in range(0, 14, 2)] + [(i, i + 2, 1) for i in range(1, 19, 2)])
        self.refused(20, woven, [], 8)

    def test_eight_blocks_that_an_apart_parts(self):
        row = [(i, i + 1, 2) for i in range(7)]
        self.assertEqual(best_of(8, row, [(3, 4)]), (2, [0, 0, 0, 0, 1, 1, 1, 1]))
        self.refused(8, row, [(0, 7)], 8)

    def test_more_than_seven_blocks_in_small_parts(self):
        self.assertEqual(best_of(40, [], []), (0, list(range(40))))
        pairs = [(i, i + 20, 1) for i in range(20)]
        self.assertEqual(best_of(40, pairs, []), (0, list(range(20)) * 2))
        sevens = [(i, i + 1, 3) for i in range(41) if i % 7 != 6]
        self.assertEqual(best_of(42, sevens, []), (0, [block // 7 for block in range(42)]))
        below = sorted(sevens + [(0, 41, -5), (6, 7, -1)])
        self.assertEqual(best_of(42, below, []), (0, [block // 7 for block in range(42)]))

    def test_what_is_handed_in_stays_and_lists_are_new(self):
        pairs, aparts = [(0, 1, 4), (0, 2, -9), (1, 2, 4)], [(0, 2)]
        told = best_of(3, pairs, aparts)
        again = best_of(3, pairs, aparts)
        self.assertEqual((pairs, aparts), ([(0, 1, 4), (0, 2, -9), (1, 2, 4)], [(0, 2)]))
        self.assertIsNot(told[1], again[1])
        told[1].clear()
        self.assertEqual(again, (4, [0, 0, 1]))
        self.assertEqual(best_of(3, pairs, aparts), again)


if __name__ == "__main__":
    unittest.main()
