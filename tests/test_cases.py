import itertools
import random
import unittest

from folk.cases import case_of, keeps, loss_of, parts_of
from samples import all_groupings, drawn_case, keeps_by_words, loss_by_words

GREAT = 10 ** 29


class TestKeeps(unittest.TestCase):
    def test_no_aparts(self):
        for many in range(5):
            for grouping in all_groupings(many):
                self.assertIs(keeps([], grouping), True)

    def test_ordinary(self):
        self.assertIs(keeps([(0, 1)], [0, 1]), True)
        self.assertIs(keeps([(0, 1)], [0, 0]), False)
        self.assertIs(keeps([(0, 2), (1, 2)], [0, 0, 1]), True)
        self.assertIs(keeps([(0, 2), (1, 2)], [0, 1, 1]), False)
        self.assertIs(keeps([(0, 2), (1, 2)], [0, 1, 0]), False)
        self.assertIs(keeps([(0, 1), (0, 2), (1, 2)], [0, 1, 2]), True)

    def test_all_small_ones(self):
        pairs = list(itertools.combinations(range(4), 2))
        for many in range(len(pairs) + 1):
            for aparts in itertools.combinations(pairs, many):
                for grouping in all_groupings(4):
                    told = keeps(list(aparts), grouping)
                    self.assertIs(told, keeps_by_words(aparts, grouping))


class TestLoss(unittest.TestCase):
    def test_no_pairs(self):
        for grouping in ([], [0], [0, 0], [0, 1]):
            self.assertEqual(loss_of([], grouping), 0)

    def test_one_pair(self):
        self.assertEqual(loss_of([(0, 1, 5)], [0, 0]), 0)
        self.assertEqual(loss_of([(0, 1, 5)], [0, 1]), 5)
        self.assertEqual(loss_of([(0, 1, -5)], [0, 0]), 5)
        self.assertEqual(loss_of([(0, 1, -5)], [0, 1]), 0)

    def test_several_pairs(self):
        pairs = [(0, 1, 5), (0, 2, -3), (1, 2, 4)]
        self.assertEqual(loss_of(pairs, [0, 0, 0]), 3)
        self.assertEqual(loss_of(pairs, [0, 0, 1]), 4)
        self.assertEqual(loss_of(pairs, [0, 1, 0]), 5 + 3 + 4)
        self.assertEqual(loss_of(pairs, [0, 1, 1]), 5)
        self.assertEqual(loss_of(pairs, [0, 1, 2]), 9)

    def test_weights_of_thirty_figures(self):
        pairs = [(0, 1, GREAT), (0, 2, -GREAT - 1), (1, 2, GREAT + 2)]
        self.assertEqual(loss_of(pairs, [0, 0, 0]), GREAT + 1)
        self.assertEqual(loss_of(pairs, [0, 1, 2]), 2 * GREAT + 2)

    def test_drawn_cases(self):
        for number in range(60):
            many, pairs, _ = drawn_case(number, number % 6, GREAT if number % 2 else 5)
            for grouping in all_groupings(many):
                told = loss_of(pairs, grouping)
                self.assertEqual(told, loss_by_words(pairs, grouping))
                self.assertIs(type(told), int)

    def test_what_is_handed_in_stays(self):
        pairs, aparts, grouping = [(0, 1, 5), (0, 2, -3)], [(0, 1)], [0, 1, 0]
        loss_of(pairs, grouping)
        keeps(aparts, grouping)
        self.assertEqual((pairs, aparts, grouping), ([(0, 1, 5), (0, 2, -3)], [(0, 1)], [0, 1, 0]))


def parts_by_words(many, pairs, aparts):
    links = [(i, j) for i, j, weight in pairs if weight > 0 and (i, j) not in aparts]
    parts = []
    for block in range(many):
        part = {block}
        grown = True
        while grown:
            more = {other for link in links if part & set(link) for other in link}
            grown = not more <= part
            part |= more
        if sorted(part) not in parts:
            parts.append(sorted(part))
    return parts


class TestParts(unittest.TestCase):
    def test_no_block_and_one(self):
        self.assertEqual(parts_of(0, [], []), [])
        self.assertEqual(parts_of(1, [], []), [[0]])

    def test_blocks_that_nothing_joins(self):
        self.assertEqual(parts_of(3, [], []), [[0], [1], [2]])

    def test_a_pair_above_nought_joins(self):
        self.assertEqual(parts_of(3, [(0, 2, 1)], []), [[0, 2], [1]])

    def test_a_pair_below_nought_does_not_join(self):
        self.assertEqual(parts_of(3, [(0, 1, -9), (0, 2, 1)], []), [[0, 2], [1]])

    def test_a_pair_that_is_in_aparts_does_not_join(self):
        self.assertEqual(parts_of(2, [(0, 1, 9)], [(0, 1)]), [[0], [1]])
        self.assertEqual(parts_of(3, [(0, 1, 9), (1, 2, 9)], [(0, 1)]), [[0], [1, 2]])

    def test_aparts_do_not_join_and_do_not_part_what_a_chain_joins(self):
        self.assertEqual(parts_of(3, [(0, 1, 1), (1, 2, 1)], [(0, 2)]), [[0, 1, 2]])
        self.assertEqual(parts_of(3, [(0, 1, 1), (0, 2, 1), (1, 2, 1)], [(0, 2)]), [[0, 1, 2]])
        self.assertEqual(parts_of(2, [], [(0, 1)]), [[0], [1]])

    def test_chains_join(self):
        pairs = [(0, 5, 2), (1, 4, 1), (2, 3, 1), (2, 5, 1)]
        self.assertEqual(parts_of(6, pairs, []), [[0, 2, 3, 5], [1, 4]])
        self.assertEqual(parts_of(4, [(0, 3, 1), (1, 2, 1), (2, 3, 1)], []), [[0, 1, 2, 3]])

    def test_more_than_seven_blocks(self):
        self.assertEqual(parts_of(40, [(i, i + 1, 1) for i in range(39)], []), [list(range(40))])
        self.assertEqual(parts_of(40, [], []), [[block] for block in range(40)])
        evens = [(i, i + 2, 1) for i in range(38)]
        self.assertEqual(parts_of(40, evens, []), [list(range(0, 40, 2)), list(range(1, 40, 2))])

    def test_drawn_cases(self):
        for number in range(300):
            case = drawn_case(number, number % 9)
            self.assertEqual(parts_of(*case), parts_by_words(*case))

    def test_what_is_handed_in_stays_and_lists_are_new(self):
        pairs, aparts = [(0, 1, 1), (0, 2, 3)], [(0, 2)]
        told = parts_of(3, pairs, aparts)
        again = parts_of(3, pairs, aparts)
        self.assertEqual((pairs, aparts), ([(0, 1, 1), (0, 2, 3)], [(0, 2)]))
        self.assertIsNot(told, again)
        for part in told:
            self.assertEqual(len([other for other in told + again if other is part]), 1)
        told[0].clear()
        told.clear()
        self.assertEqual(again, [[0, 1], [2]])
        self.assertEqual(parts_of(3, pairs, aparts), again)


class TestCaseOf(unittest.TestCase):
    PAIRS = [(0, 1, -2), (0, 2, 3), (0, 5, 1), (1, 3, 4), (2, 5, -7), (3, 4, -1)]
    APARTS = [(0, 5), (1, 2), (2, 5), (3, 4)]

    def test_blocks_that_are_not_next_to_each_other(self):
        self.assertEqual(
            case_of([0, 2, 5], self.PAIRS, self.APARTS),
            (3, [(0, 1, 3), (0, 2, 1), (1, 2, -7)], [(0, 2), (1, 2)]),
        )
        self.assertEqual(case_of([1, 3], self.PAIRS, self.APARTS), (2, [(0, 1, 4)], []))
        self.assertEqual(case_of([3, 4], self.PAIRS, self.APARTS), (2, [(0, 1, -1)], [(0, 1)]))

    def test_one_block_and_none(self):
        self.assertEqual(case_of([4], self.PAIRS, self.APARTS), (1, [], []))
        self.assertEqual(case_of([], self.PAIRS, self.APARTS), (0, [], []))

    def test_all_blocks(self):
        self.assertEqual(case_of([0, 1, 2, 3, 4, 5], self.PAIRS, self.APARTS), (6, self.PAIRS, self.APARTS))

    def test_drawn_parts(self):
        for number in range(200):
            many, pairs, aparts = drawn_case(number, 8)
            part = sorted(random.Random(number).sample(range(8), number % 9))
            told = case_of(part, pairs, aparts)
            self.assertIs(type(told), tuple)
            weights = {(i, j): weight for i, j, weight in pairs}
            places = list(itertools.combinations(range(len(part)), 2))
            inner = [(a, b, weights[(part[a], part[b])]) for a, b in places if (part[a], part[b]) in weights]
            parted = [(a, b) for a, b in places if (part[a], part[b]) in aparts]
            self.assertEqual(told, (len(part), inner, parted))

    def test_what_is_handed_in_stays_and_lists_are_new(self):
        part, pairs, aparts = [0, 1, 2, 3, 4, 5], list(self.PAIRS), list(self.APARTS)
        told = case_of(part, pairs, aparts)
        again = case_of(part, pairs, aparts)
        self.assertEqual((part, pairs, aparts), ([0, 1, 2, 3, 4, 5], self.PAIRS, self.APARTS))
        for one, others in ((told[1], (pairs, again[1])), (told[2], (aparts, again[2]))):
            for other in others:
                self.assertIsNot(one, other)
        told[1].clear()
        told[2].clear()
        self.assertEqual((pairs, aparts), (self.PAIRS, self.APARTS))
        self.assertEqual(case_of(part, pairs, aparts), again)


if __name__ == "__main__":
    unittest.main()
