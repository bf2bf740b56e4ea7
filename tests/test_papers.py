import copy
import itertools
import random
import unittest

from folk.best import best_of
from folk.checking import is_shown
from folk.errors import TooMany
from folk.papers import paper_of
from samples import drawn_case

GREAT = 10 ** 29


def papers_within(paper):
    """A paper and all papers within it."""
    found = []
    ahead = [paper]
    while ahead:
        here = ahead.pop()
        found.append(here)
        if here[0] == "case":
            ahead.extend(here[3:])
    return found


def lists_within(paper):
    """Each list that stands in a paper or within it, as often as it stands there."""
    found = []
    for here in papers_within(paper):
        if here[0] == "rings":
            found.append(here[1])
            found.extend(ring for ring, _ in here[1])
        elif here[0] == "never":
            found.append(here[1])
    return found


class TestPapers(unittest.TestCase):
    def check_form(self, paper, many):
        for here in papers_within(paper):
            self.assertIs(type(here), tuple)
            if here[0] == "case":
                self.assertEqual(len(here), 5)
                self.assertTrue(0 <= here[1] < here[2] < many)
            else:
                self.assertIn(here[0], ("rings", "never"))
                self.assertEqual(len(here), 2)
                self.assertIs(type(here[1]), list)
            if here[0] == "rings":
                self.assertLessEqual(len(here[1]), 100)
                for told in here[1]:
                    self.assertIs(type(told), tuple)
                    self.assertIs(type(told[0]), list)
                    self.assertIs(type(told[1]), int)

    def check(self, many, pairs, aparts):
        kept = copy.deepcopy((pairs, aparts))
        paper = paper_of(many, pairs, aparts)
        self.assertEqual((pairs, aparts), kept)
        least = best_of(many, pairs, aparts)[0]
        self.assertIs(is_shown(paper, many, pairs, aparts, least), True, (many, pairs, aparts))
        self.assertIs(is_shown(paper, many, pairs, aparts, least + 1), False, (many, pairs, aparts))
        self.check_form(paper, many)
        self.assertLessEqual(len(papers_within(paper)), 40000)
        lists = lists_within(paper)
        self.assertEqual(len({id(told) for told in lists}), len(lists))

    def test_no_block_one_and_two(self):
        self.check(0, [], [])
        self.check(1, [], [])
        for pairs in ([], [(0, 1, 3)], [(0, 1, -3)]):
            self.check(2, pairs, [])
            self.check(2, pairs, [(0, 1)])

    def test_three_blocks_of_every_kind(self):
        places = [(0, 1), (0, 2), (1, 2)]
        for weights in itertools.product((-3, -2, 0, 2, 3), repeat=3):
            pairs = [(i, j, weight) for (i, j), weight in zip(places, weights) if weight != 0]
            for many in range(4):
                for aparts in itertools.combinations(places, many):
                    self.check(3, pairs, list(aparts))

    def test_drawn_cases(self):
        for number in range(1600):
            self.check(*drawn_case(number, number % 8, (1, 3, 20, GREAT)[number % 4]))

    def test_drawn_cases_of_seven_blocks_with_all_pairs(self):
        for number in range(60):
            draw = random.Random(number)
            greatest = (1, 4, GREAT)[number % 3]
            places = list(itertools.combinations(range(7), 2))
            above = draw.random()
            pairs = [(i, j, draw.randint(1, greatest) * (1 if draw.random() < above else -1)) for i, j in places]
            aparts = [place for place in places if draw.random() < (0, 0, 0.1, 0.4)[number % 4]]
            self.check(7, pairs, aparts)

    def test_seven_blocks_of_hard_shapes(self):
        places = list(itertools.combinations(range(7), 2))
        for told in (
            lambda i, j: 1,
            lambda i, j: -1,
            lambda i, j: 1 if (j - i) % 2 else -1,
            lambda i, j: 1 if j - i in (1, 6) else -1,
            lambda i, j: -1 if j - i in (1, 6) else 1,
            lambda i, j: 1 if (j - i) in (1, 2, 4) else -1,
            lambda i, j: 1 if (i * j) % 3 else -1,
            lambda i, j: 2 ** (i + j) if (i + j) % 3 else -2 ** (i + j),
            lambda i, j: GREAT + i * j if (i + j) % 2 else i * j - GREAT,
            lambda i, j: 5 if i == 0 else -1,
            lambda i, j: 5 if j == 6 else -1,
            lambda i, j: -9 if i == 0 else 1,
        ):
            pairs = [(i, j, told(i, j)) for i, j in places]
            self.check(7, pairs, [])
            self.check(7, pairs, [(0, 1), (2, 5)])
            self.check(7, pairs, [place for place in places if sum(place) % 4 == 1])
            self.check(7, pairs, places)

    def test_too_many_blocks_in_whatever_parts(self):
        row = [(i, i + 1, 1) for i in range(39)]
        for many in (8, 9, 20, 40):
            for pairs in ([], row[:many - 1], [(0, 1, -1)], [(0, 1, 1)]):
                with self.assertRaises(TooMany) as taken:
                    paper_of(many, pairs, [])
                self.assertEqual(taken.exception.count, many)

    def test_a_new_paper_each_time(self):
        many, pairs, aparts = 4, [(0, 1, 2), (0, 2, -5), (0, 3, 2), (1, 2, 2), (1, 3, -5), (2, 3, 2)], [(0, 2)]
        told = paper_of(many, pairs, aparts)
        again = paper_of(many, pairs, aparts)
        kept = copy.deepcopy(again)
        self.assertFalse({id(one) for one in lists_within(told)} & {id(one) for one in lists_within(again)})
        for one in lists_within(told):
            one.clear()
        self.assertEqual(again, kept)
        self.assertIs(is_shown(paper_of(many, pairs, aparts), many, pairs, aparts, best_of(many, pairs, aparts)[0]), True)


if __name__ == "__main__":
    unittest.main()
