import copy
import itertools
import random
import unittest

from folk.checking import is_shown
from samples import all_groupings, drawn_case, keeps_by_words, loss_by_words

GREAT = 10 ** 29
NONE = ("rings", [])

# Three blocks whose two links ask for one group, and whose gap asks for two: 3 are lost.
TRIANGLE = (3, [(0, 1, 5), (0, 2, -3), (1, 2, 4)], [])
# Four blocks in a square of links, with both diagonals below nought.
SQUARE = (4, [(0, 1, 2), (0, 2, -5), (0, 3, 2), (1, 2, 2), (1, 3, -5), (2, 3, 2)], [])


def ring_fits(ring, weights, decided):
    """Whether a ring may stand in rings, and its pairs that are not decided."""
    if len(ring) < 3 or len(set(ring)) < len(ring):
        return False, []
    links = [tuple(sorted(pair)) for pair in zip(ring, ring[1:])]
    gap = tuple(sorted((ring[0], ring[-1])))
    undecided = [pair for pair in links + [gap] if pair not in decided]
    for link in links:
        if not (decided[link] == "held" if link in decided else weights.get(link, 0) > 0):
            return False, []
    if not (decided[gap] == "parted" if gap in decided else weights.get(gap, 0) < 0):
        return False, []
    return undecided != [], undecided


def shown_by_words(paper, case, least, decided=None):
    """The checker once more, as the document says it, walked paper within paper."""
    many, pairs, aparts = case
    weights = {(i, j): weight for i, j, weight in pairs}
    if decided is None:
        decided = {pair: "parted" for pair in aparts}
    if paper[0] == "case":
        _, i, j, held, parted = paper
        if not i < j or (i, j) in decided:
            return False
        held_shows = shown_by_words(held, case, least, {**decided, (i, j): "held"})
        return held_shows and shown_by_words(parted, case, least, {**decided, (i, j): "parted"})
    if paper[0] == "never":
        ring = paper[1]
        if len(ring) < 3 or len(set(ring)) < len(ring):
            return False
        links = [tuple(sorted(pair)) for pair in zip(ring, ring[1:])]
        gap = tuple(sorted((ring[0], ring[-1])))
        return all(decided.get(link) == "held" for link in links) and decided.get(gap) == "parted"
    shown = sum(-weights.get(pair, 0) for pair in decided if decided[pair] == "held" and weights.get(pair, 0) < 0)
    shown += sum(weights.get(pair, 0) for pair in decided if decided[pair] == "parted" and weights.get(pair, 0) > 0)
    spent = []
    for ring, amount in paper[1]:
        fits, undecided = ring_fits(ring, weights, decided)
        if not fits or amount < 1:
            return False
        shown += amount
        spent.extend((pair, amount) for pair in undecided)
    for pair in {pair for pair, _ in spent}:
        if sum(amount for other, amount in spent if other == pair) > abs(weights[pair]):
            return False
    return shown >= least


class Checking(unittest.TestCase):
    def shows(self, paper, case, least):
        """The paper shows just this loss: not one more, and each one less."""
        kept = copy.deepcopy((paper, case))
        self.assertIs(is_shown(paper, *case, least), True, (paper, least))
        self.assertIs(is_shown(paper, *case, least - 1), True, (paper, least))
        self.assertIs(is_shown(paper, *case, least + 1), False, (paper, least))
        self.assertEqual((paper, case), kept)

    def none(self, paper, case):
        """The paper shows nothing at all, whatever the loss."""
        for least in (10, 1, 0, -1, -100):
            self.assertIs(is_shown(paper, *case, least), False, (paper, least))


class TestRings(Checking):
    def test_no_rings(self):
        self.shows(NONE, (0, [], []), 0)
        self.shows(NONE, (1, [], []), 0)
        self.shows(NONE, TRIANGLE, 0)

    def test_one_ring(self):
        for amount in (1, 2, 3):
            self.shows(("rings", [([0, 1, 2], amount)]), TRIANGLE, amount)
            self.shows(("rings", [([2, 1, 0], amount)]), TRIANGLE, amount)

    def test_an_amount_above_a_weight(self):
        self.none(("rings", [([0, 1, 2], 4)]), TRIANGLE)
        self.none(("rings", [([0, 1, 2], GREAT)]), TRIANGLE)
        self.none(("rings", [([0, 1, 2], 3)]), (3, [(0, 1, 2), (0, 2, -3), (1, 2, 4)], []))
        self.none(("rings", [([0, 1, 2], 3)]), (3, [(0, 1, 4), (0, 2, -3), (1, 2, 2)], []))

    def test_an_amount_of_nought_and_below(self):
        for amount in (0, -1, -3, -GREAT):
            self.none(("rings", [([0, 1, 2], amount)]), TRIANGLE)
            self.none(("rings", [([0, 1, 2], 3), ([0, 1, 2], amount)]), TRIANGLE)

    def test_a_ring_told_twice_counts_twice(self):
        self.shows(("rings", [([0, 1, 2], 1), ([0, 1, 2], 2)]), TRIANGLE, 3)
        self.shows(("rings", [([0, 1, 2], 1), ([2, 1, 0], 2)]), TRIANGLE, 3)
        self.shows(("rings", [([0, 1, 2], 1)] * 3), TRIANGLE, 3)
        self.none(("rings", [([0, 1, 2], 2), ([0, 1, 2], 2)]), TRIANGLE)
        self.none(("rings", [([0, 1, 2], 3), ([0, 1, 2], 1)]), TRIANGLE)
        self.none(("rings", [([0, 1, 2], 1)] * 4), TRIANGLE)

    def test_a_link_in_several_rings(self):
        case = (4, [(0, 1, 5), (0, 2, -3), (0, 3, -3), (1, 2, 9), (1, 3, 9)], [])
        self.shows(("rings", [([0, 1, 2], 3), ([0, 1, 3], 2)]), case, 5)
        self.shows(("rings", [([2, 1, 0], 2), ([0, 1, 3], 3)]), case, 5)
        self.none(("rings", [([0, 1, 2], 3), ([0, 1, 3], 3)]), case)

    def test_a_gap_in_several_rings(self):
        case = (4, [(0, 1, 9), (0, 2, 9), (0, 3, -4), (1, 3, 9), (2, 3, 9)], [])
        self.shows(("rings", [([0, 1, 3], 2), ([0, 2, 3], 2)]), case, 4)
        self.none(("rings", [([0, 1, 3], 2), ([3, 2, 0], 3)]), case)

    def test_several_rings_apart_from_each_other(self):
        self.shows(("rings", [([0, 1, 2], 2), ([0, 3, 2], 2)]), SQUARE, 4)
        self.shows(("rings", [([0, 1, 2], 1), ([0, 3, 2], 1), ([1, 0, 3], 1), ([1, 2, 3], 1)]), SQUARE, 4)

    def test_rings_of_more_blocks(self):
        case = (5, [(0, 1, 2), (0, 4, -2), (1, 2, 3), (2, 3, 4), (3, 4, 5)], [])
        self.shows(("rings", [([0, 1, 2, 3, 4], 2)]), case, 2)
        self.shows(("rings", [([4, 3, 2, 1, 0], 1)]), case, 1)
        self.none(("rings", [([0, 1, 2, 3, 4], 3)]), case)
        self.none(("rings", [([1, 2, 3, 4, 0], 1)]), case)

    def test_rings_of_fewer_than_three_blocks(self):
        for ring in ([], [0], [0, 1], [0, 2], [2, 0]):
            self.none(("rings", [(ring, 1)]), TRIANGLE)
            self.none(("rings", [([0, 1, 2], 1), (ring, 1)]), TRIANGLE)

    def test_rings_with_a_block_twice(self):
        for ring in ([0, 1, 1, 2], [0, 1, 0, 1, 2], [0, 1, 2, 1, 2], [0, 0, 0], [0, 1, 0], [0, 0, 1, 2], [0, 1, 2, 2]):
            self.none(("rings", [(ring, 1)]), TRIANGLE)

    def test_links_that_are_none(self):
        # The gap of the triangle as a link, and a link as the gap.
        self.none(("rings", [([0, 2, 1], 1)]), TRIANGLE)
        self.none(("rings", [([1, 0, 2], 1)]), TRIANGLE)
        self.none(("rings", [([0, 1, 2], 1)]), (3, [(0, 2, -3), (1, 2, 4)], []))
        self.none(("rings", [([0, 1, 2], 1)]), (3, [(0, 1, 5), (0, 2, -3)], []))
        self.none(("rings", [([0, 1, 2], 1)]), (3, [(0, 1, -5), (0, 2, -3), (1, 2, 4)], []))

    def test_gaps_that_are_none(self):
        self.none(("rings", [([0, 1, 2], 1)]), (3, [(0, 1, 5), (1, 2, 4)], []))
        self.none(("rings", [([0, 1, 2], 1)]), (3, [(0, 1, 5), (0, 2, 3), (1, 2, 4)], []))

    def test_weights_of_thirty_figures(self):
        case = (3, [(0, 1, GREAT + 5), (0, 2, -GREAT), (1, 2, GREAT + 1)], [])
        self.shows(("rings", [([0, 1, 2], GREAT)]), case, GREAT)
        self.none(("rings", [([0, 1, 2], GREAT + 1)]), case)
        self.shows(("rings", [([0, 1, 2], GREAT - 1), ([0, 1, 2], 1)]), case, GREAT)

    def test_one_wrong_ring_spoils_all(self):
        self.none(("rings", [([0, 1, 2], 3), ([0, 2, 1], 1)]), TRIANGLE)
        self.none(("rings", [([0, 2, 1], 1), ([0, 1, 2], 3)]), TRIANGLE)


class TestAparts(Checking):
    def test_what_aparts_lose_is_counted(self):
        self.shows(NONE, (2, [(0, 1, 5)], [(0, 1)]), 5)
        self.shows(NONE, (2, [(0, 1, -5)], [(0, 1)]), 0)
        self.shows(NONE, (2, [], [(0, 1)]), 0)
        self.shows(NONE, (3, [(0, 1, 5), (0, 2, 7), (1, 2, 9)], [(0, 1), (0, 2)]), 12)

    def test_a_gap_that_is_apart(self):
        for pairs in ([(0, 1, 5), (1, 2, 4)], [(0, 1, 5), (0, 2, -3), (1, 2, 4)]):
            case = (3, pairs, [(0, 2)])
            self.shows(("rings", [([0, 1, 2], 4)]), case, 4)
            self.none(("rings", [([0, 1, 2], 5)]), case)

    def test_a_gap_that_is_apart_with_a_weight_above_nought(self):
        case = (3, [(0, 1, 5), (0, 2, 3), (1, 2, 4)], [(0, 2)])
        self.shows(("rings", [([0, 1, 2], 4)]), case, 7)
        self.shows(NONE, case, 3)

    def test_a_link_that_is_apart(self):
        self.none(("rings", [([0, 1, 2], 1)]), (3, [(0, 1, 5), (0, 2, -3), (1, 2, 4)], [(0, 1)]))
        self.none(("rings", [([0, 1, 2], 1)]), (3, [(0, 1, 5), (0, 2, -3), (1, 2, 4)], [(1, 2)]))

    def test_a_gap_that_is_apart_in_several_rings_has_no_bound(self):
        case = (4, [(0, 1, 9), (0, 2, 9), (0, 3, -1), (1, 3, 9), (2, 3, 9)], [(0, 3)])
        self.shows(("rings", [([0, 1, 3], 9), ([0, 2, 3], 9)]), case, 18)

    def test_a_case_of_an_apart_is_decided_already(self):
        case = (3, [(0, 1, 5), (0, 2, -3), (1, 2, 4)], [(0, 1)])
        self.none(("case", 0, 1, NONE, NONE), case)
        self.shows(("case", 0, 2, NONE, NONE), case, 5)


class TestCases(Checking):
    def test_both_ways_show(self):
        held = ("rings", [])
        parted = ("rings", [])
        self.shows(("case", 0, 1, held, parted), TRIANGLE, 0)
        # Held: the ring still asks for 3. Parted: 5 are lost.
        self.shows(("case", 0, 1, ("rings", [([0, 1, 2], 3)]), NONE), TRIANGLE, 3)

    def test_the_worse_way_counts(self):
        self.shows(("case", 0, 2, NONE, ("rings", [([0, 1, 2], 4)])), TRIANGLE, 3)
        self.shows(("case", 0, 2, NONE, ("rings", [([0, 1, 2], 2)])), TRIANGLE, 2)
        self.shows(("case", 0, 2, NONE, NONE), TRIANGLE, 0)

    def test_what_one_way_shows_and_the_other_does_not(self):
        # Parted, the gap (0, 2) has no bound any more; held, it can't be a gap.
        ring = ("rings", [([0, 1, 2], 4)])
        self.shows(("case", 0, 2, NONE, ring), TRIANGLE, 3)
        self.none(("case", 0, 2, ring, NONE), TRIANGLE)
        self.none(("case", 0, 2, ring, ring), TRIANGLE)
        # Held, a link has no bound any more; parted, it can't be a link.
        ring = ("rings", [([0, 1, 2], 3)])
        case = (3, [(0, 1, 2), (0, 2, -3), (1, 2, 4)], [])
        self.shows(("case", 0, 1, ring, NONE), case, 2)
        self.none(("case", 0, 1, NONE, ring), case)

    def test_a_pair_without_weight_is_decided_too(self):
        case = (3, [(0, 1, 5), (1, 2, 4)], [])
        self.shows(("case", 0, 2, NONE, ("rings", [([0, 1, 2], 4)])), case, 0)
        case = (3, [(0, 1, 5), (0, 2, -4)], [])
        self.shows(("case", 1, 2, ("rings", [([0, 1, 2], 4)]), NONE), case, 0)

    def test_what_decided_pairs_lose(self):
        case = (2, [(0, 1, 7)], [])
        self.assertIs(is_shown(("case", 0, 1, NONE, NONE), *case, 0), True)
        self.assertIs(is_shown(("case", 0, 1, NONE, NONE), *case, 1), False)
        case = (3, [(0, 1, 7), (0, 2, -6), (1, 2, 2)], [])
        inner = ("case", 0, 2, NONE, ("rings", [([0, 1, 2], 2)]))
        self.shows(("case", 0, 1, inner, NONE), case, 2)
        self.shows(("case", 0, 1, ("case", 0, 2, NONE, ("case", 1, 2, ("never", [0, 1, 2]), NONE)), NONE), case, 2)

    def test_decided_losses_and_amounts_add_up(self):
        case = (6, [(0, 1, 5), (0, 2, -3), (1, 2, 4), (3, 4, 2), (3, 5, -2), (4, 5, 2)], [])
        self.shows(("rings", [([0, 1, 2], 3), ([3, 4, 5], 2)]), case, 5)
        ring = ("rings", [([3, 4, 5], 2)])
        # Held at the gap 3 are lost, parted the link (1, 2) asks for 4.
        self.shows(("case", 0, 2, ring, ("rings", [([0, 1, 2], 4), ([3, 4, 5], 2)])), case, 5)

    def test_the_wrong_order_and_one_block_twice(self):
        self.none(("case", 1, 0, NONE, NONE), TRIANGLE)
        self.none(("case", 2, 0, NONE, NONE), TRIANGLE)
        self.none(("case", 1, 1, NONE, NONE), TRIANGLE)
        self.none(("case", 0, 0, NONE, NONE), TRIANGLE)

    def test_decided_already(self):
        again = ("case", 0, 1, NONE, NONE)
        self.none(("case", 0, 1, again, NONE), TRIANGLE)
        self.none(("case", 0, 1, NONE, again), TRIANGLE)
        self.none(("case", 0, 1, NONE, ("case", 0, 2, again, NONE)), TRIANGLE)
        self.none(("case", 0, 1, ("case", 0, 2, NONE, again), NONE), TRIANGLE)
        self.shows(("case", 0, 2, again, again), TRIANGLE, 0)

    def test_what_follows_is_not_decided(self):
        # (0, 2) follows to be held, and may be told by a case once more; its other way can't be.
        follows = ("case", 0, 2, NONE, ("never", [0, 1, 2]))
        inner = ("case", 1, 2, follows, NONE)
        self.shows(("case", 0, 1, inner, NONE), TRIANGLE, 3)
        # Not decided, it counts for nothing by itself: a ring has to show it.
        self.shows(("case", 0, 1, ("case", 1, 2, NONE, NONE), NONE), TRIANGLE, 0)
        ring = ("rings", [([0, 1, 2], 3)])
        self.shows(("case", 0, 1, ("case", 1, 2, ring, NONE), NONE), TRIANGLE, 3)
        self.none(("case", 0, 1, ("case", 1, 2, ("rings", [([0, 1, 2], 4)]), NONE), NONE), TRIANGLE)

    def test_one_way_is_nothing_to_the_other(self):
        # What the held way decides is free again in the parted one.
        inner = ("case", 1, 2, NONE, NONE)
        self.shows(("case", 0, 1, inner, inner), TRIANGLE, 0)
        inner = ("case", 0, 2, NONE, ("rings", [([0, 1, 2], 4)]))
        self.shows(("case", 0, 1, inner, inner[:4] + (NONE,)), TRIANGLE, 3)
        self.none(("case", 0, 1, inner, inner), TRIANGLE)

    def test_all_of_a_rings_pairs_decided(self):
        ring = ("rings", [([0, 1, 2], 1)])
        apart = (3, [(0, 1, 5), (0, 2, -3), (1, 2, 4)], [(0, 2)])
        self.none(("case", 0, 1, ("case", 1, 2, ring, NONE), NONE), apart)
        self.none(("case", 0, 1, ("case", 1, 2, ("case", 0, 2, NONE, ring), NONE), NONE), TRIANGLE)
        # One pair that is not decided is enough: here the link (1, 2).
        self.shows(("case", 0, 1, ("rings", [([0, 1, 2], 4)]), NONE), apart, 4)

    def test_a_wrong_paper_within_spoils_all(self):
        wrong = ("rings", [([0, 2, 1], 1)])
        self.none(("case", 0, 1, wrong, NONE), TRIANGLE)
        self.none(("case", 0, 1, NONE, wrong), TRIANGLE)
        self.none(("case", 0, 1, NONE, ("case", 0, 2, NONE, wrong)), TRIANGLE)

    def test_cases_deep_within_each_other(self):
        many = 40
        paper = NONE
        for i, j in itertools.combinations(range(many), 2):
            paper = ("case", i, j, NONE, paper)
        self.assertIs(is_shown(paper, many, [], [], 0), True)
        self.assertIs(is_shown(paper, many, [], [], 1), False)


class TestNever(Checking):
    def paper(self, never, links, gap):
        """A paper with a never where these links are held and the gap is parted."""
        told = never
        for i, j in links:
            told = ("case", i, j, told, NONE)
        return ("case",) + gap + (NONE, told) if gap else told

    def test_by_a_case(self):
        case = (3, [], [])
        paper = self.paper(("never", [0, 1, 2]), [(0, 1), (1, 2)], (0, 2))
        self.shows(paper, case, 0)
        self.shows(self.paper(("never", [2, 1, 0]), [(0, 1), (1, 2)], (0, 2)), case, 0)

    def test_by_an_apart(self):
        self.shows(self.paper(("never", [0, 1, 2]), [(0, 1), (1, 2)], None), (3, [], [(0, 2)]), 0)
        self.shows(self.paper(("never", [0, 2, 3, 1]), [(0, 2), (2, 3), (1, 3)], None), (4, [], [(0, 1)]), 0)

    def test_it_shows_whatever_loss(self):
        # Each way but the never loses 9.
        case = (3, [(0, 1, 9), (1, 2, 9)], [(0, 2)])
        paper = ("case", 0, 1, ("case", 1, 2, ("never", [0, 1, 2]), NONE), NONE)
        self.shows(paper, case, 9)
        self.shows(("case", 0, 1, ("case", 1, 2, ("never", [2, 1, 0]), NONE), NONE), case, 9)

    def test_links_that_are_not_held(self):
        self.none(("never", [0, 1, 2]), (3, [(0, 1, 5), (1, 2, 5)], [(0, 2)]))
        self.none(self.paper(("never", [0, 1, 2]), [(0, 1)], None), (3, [(1, 2, 5)], [(0, 2)]))
        self.none(self.paper(("never", [0, 1, 2]), [(1, 2)], None), (3, [(0, 1, 5)], [(0, 2)]))

    def test_a_link_that_is_parted(self):
        self.none(self.paper(("never", [0, 1, 2]), [(0, 1)], None), (3, [], [(0, 2), (1, 2)]))
        paper = ("case", 0, 1, ("case", 1, 2, NONE, ("never", [0, 1, 2])), NONE)
        self.none(paper, (3, [], [(0, 2)]))

    def test_a_gap_that_is_not_parted(self):
        for pairs in ([], [(0, 2, -5)], [(0, 2, 5)]):
            self.none(self.paper(("never", [0, 1, 2]), [(0, 1), (1, 2)], None), (3, pairs, []))

    def test_a_gap_that_is_held(self):
        paper = self.paper(("never", [0, 1, 2]), [(0, 1), (1, 2), (0, 2)], None)
        self.none(paper, (3, [], []))

    def test_a_gap_told_as_a_link(self):
        self.none(self.paper(("never", [0, 2, 1]), [(0, 1), (1, 2)], None), (3, [], [(0, 2)]))
        self.none(self.paper(("never", [1, 0, 2]), [(0, 1), (1, 2)], None), (3, [], [(0, 2)]))

    def test_rings_that_are_none(self):
        for ring in ([], [0], [0, 2], [2, 0], [0, 1], [0, 1, 0], [0, 1, 1, 2], [0, 1, 0, 1, 2], [0, 1, 2, 1, 2], [0, 0, 0]):
            self.none(self.paper(("never", ring), [(0, 1), (1, 2)], None), (3, [], [(0, 2)]))

    def test_a_never_by_itself(self):
        self.none(("never", [0, 1, 2]), TRIANGLE)
        self.none(("never", []), (0, [], []))
        self.none(("never", [0, 0]), (1, [], []))

    def test_where_it_stands_alone_any_loss_is_shown(self):
        # An apart and two held links stand against each other in both ways of the last case.
        never = ("never", [0, 1, 2])
        paper = ("case", 0, 3, never, never)
        for i, j in ((1, 2), (0, 1)):
            paper = ("case", i, j, paper, NONE)
        self.shows(paper, (4, [(0, 1, 6), (1, 2, 6)], [(0, 2)]), 6)


class TestDrawn(unittest.TestCase):
    """Papers drawn at random, most of them wrong: the checker against the words of the document."""

    def drawn_ring(self, draw, case, decided):
        many, pairs, _ = case
        size = draw.choice((2, 3, 3, 3, 3, 4, 4, 5))
        if draw.random() < 0.03 or size > many:
            return [draw.randrange(many) for _ in range(size)]
        if draw.random() < 0.3:
            return draw.sample(range(many), size)
        # A way along what may be a link, so that many rings are right.
        weights = {(i, j): weight for i, j, weight in pairs}
        for _ in range(30):
            ring = draw.sample(range(many), size)
            if ring_fits(ring, weights, decided)[0]:
                break
        return ring

    def drawn_paper(self, draw, case, decided, depth):
        many = case[0]
        if depth > 0 and draw.random() < 0.7:
            free = [pair for pair in itertools.combinations(range(many), 2) if pair not in decided]
            if free and draw.random() < 0.98:
                i, j = draw.choice(free)
            else:
                i, j = draw.randrange(many), draw.randrange(many)
            held = self.drawn_paper(draw, case, {**decided, (i, j): "held"}, depth - 1)
            parted = self.drawn_paper(draw, case, {**decided, (i, j): "parted"}, depth - 1)
            return ("case", i, j, held, parted)
        if draw.random() < 0.1:
            return ("never", self.drawn_ring(draw, case, decided))
        rings = []
        for _ in range(draw.choice((0, 1, 1, 2, 3))):
            amount = draw.choice((1, 2, 3)) if draw.random() < 0.99 else 0
            rings.append((self.drawn_ring(draw, case, decided), amount))
        return ("rings", rings)

    def test_as_the_words_say_and_never_too_much(self):
        seen = {True: 0, False: 0}
        for number in range(6000):
            draw = random.Random(number)
            case = drawn_case(number, draw.choice((3, 4, 5)), 4)
            paper = self.drawn_paper(draw, case, {pair: "parted" for pair in case[2]}, draw.choice((0, 1, 2, 3)))
            kept = copy.deepcopy((paper, case))
            kept_groupings = [grouping for grouping in all_groupings(case[0]) if keeps_by_words(case[2], grouping)]
            losses = [loss_by_words(case[1], grouping) for grouping in kept_groupings]
            for least in (-1, 0, 1, 2, 3, 5, 8, 12):
                told = is_shown(paper, *case, least)
                self.assertIs(told, shown_by_words(paper, case, least), (paper, case, least))
                if told:
                    self.assertGreaterEqual(min(losses), least, (paper, case))
                if least > 0:
                    seen[told] += 1
            self.assertEqual((paper, case), kept)
        self.assertGreater(min(seen.values()), 300)


if __name__ == "__main__":
    unittest.main()
