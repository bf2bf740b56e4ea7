import unittest

from folk.letters import plain_of
from folk.ways import distance, is_near, way_of
from samples import SIGNS, texts_up_to


def neighbours(text, signs):
    """The texts that one step, put, cut or turn, makes of a text."""
    found = []
    for place in range(len(text) + 1):
        found.extend(text[:place] + sign + text[place:] for sign in signs)
    for place in range(len(text)):
        found.append(text[:place] + text[place + 1:])
        found.extend(text[:place] + sign + text[place + 1:] for sign in signs)
    return found


def distances_from(text, longest, signs):
    """How many steps it takes to each text of at most so many signs, walked step by step."""
    found = {text: 0}
    edge = [text]
    while edge:
        reached = []
        for here in edge:
            for there in neighbours(here, signs):
                if len(there) <= longest and there not in found:
                    found[there] = found[here] + 1
                    reached.append(there)
        edge = reached
    return found


class TestDistance(unittest.TestCase):
    def check(self, one, other, told):
        self.assertEqual(distance(one, other), told, (one, other))
        self.assertEqual(distance(other, one), told, (other, one))

    def test_no_sign(self):
        self.check("", "", 0)
        self.check("", "a", 1)
        self.check("", "abc", 3)
        self.check("", "x" * 60, 60)

    def test_the_same(self):
        self.check("a", "a", 0)
        self.check("Ann Bo", "Ann Bo", 0)
        self.check(SIGNS[:60], SIGNS[:60], 0)

    def test_ordinary(self):
        self.check("bob", "rob", 1)
        self.check("ann", "anna", 1)
        self.check("ab", "ba", 2)
        self.check("kitten", "sitting", 3)
        self.check("saturday", "sunday", 3)
        self.check("abcdef", "bcdefa", 2)

    def test_it_is_of_the_texts_as_they_are(self):
        self.check("Ann", "ann", 1)
        self.check(" ann", "ann", 1)
        self.check("a  b", "a b", 1)

    def test_nothing_shared(self):
        self.check("abc", "xyz", 3)
        self.check("abc", "vwxyz", 5)

    def test_sixty_signs(self):
        self.check("a" * 60, "b" * 60, 60)
        self.check("ab" * 30, "ba" * 30, 2)
        self.check("a" * 60, "a" * 59 + "b", 1)
        self.check("a" * 30 + "b" * 30, "b" * 30 + "a" * 30, 60)

    def test_somewhat_beyond_sixty_signs(self):
        self.check("a" * 90, "b" * 80, 90)

    def test_it_is_a_whole_number(self):
        for one, other in (("", ""), ("a", "a"), ("a", "b")):
            self.assertIs(type(distance(one, other)), int)

    def test_as_few_steps_as_a_walk_step_by_step(self):
        for one in texts_up_to(4, "ab"):
            steps = distances_from(one, 5, "ab")
            for other in texts_up_to(4, "ab"):
                self.assertEqual(distance(one, other), steps[other], (one, other))
        for one in ("", "abc", "cab", "aabc", "bca"):
            steps = distances_from(one, 5, "abc")
            for other in texts_up_to(4, "abc"):
                self.assertEqual(distance(one, other), steps[other], (one, other))


class TestWay(unittest.TestCase):
    def check_step(self, step):
        self.assertIs(type(step), tuple)
        self.assertIn(step[0], ("keep", "put", "cut", "turn"))
        self.assertEqual(len(step), 3 if step[0] == "turn" else 2)
        for sign in step[1:]:
            self.assertIs(type(sign), str)
            self.assertEqual(len(sign), 1)
        if step[0] == "turn":
            self.assertNotEqual(step[1], step[2])

    def check(self, one, other):
        way = way_of(one, other)
        self.assertIs(type(way), list)
        for step in way:
            self.check_step(step)
        begun = [step[1] for step in way if step[0] in ("keep", "cut", "turn")]
        ended = [step[-1] for step in way if step[0] in ("keep", "put", "turn")]
        self.assertEqual("".join(begun), one, (one, other))
        self.assertEqual("".join(ended), other, (one, other))
        done = [step for step in way if step[0] != "keep"]
        self.assertEqual(len(done), distance(one, other), (one, other))

    def test_ways_that_can_be_but_one(self):
        self.assertEqual(way_of("", ""), [])
        self.assertEqual(way_of("", "ab"), [("put", "a"), ("put", "b")])
        self.assertEqual(way_of("ab", ""), [("cut", "a"), ("cut", "b")])
        self.assertEqual(way_of("ab", "ab"), [("keep", "a"), ("keep", "b")])
        self.assertEqual(way_of("a", "b"), [("turn", "a", "b")])
        self.assertEqual(way_of("bob", "rob"), [("turn", "b", "r"), ("keep", "o"), ("keep", "b")])
        self.assertEqual(way_of("abc", "ac"), [("keep", "a"), ("cut", "b"), ("keep", "c")])
        self.assertEqual(way_of("ac", "abc"), [("keep", "a"), ("put", "b"), ("keep", "c")])

    def test_great_letters_and_blanks_are_signs_of_their_own(self):
        self.assertEqual(way_of("A", "a"), [("turn", "A", "a")])
        self.assertEqual(way_of("a ", "a"), [("keep", "a"), ("cut", " ")])

    def test_ordinary(self):
        for one, other in (("kitten", "sitting"), ("saturday", "sunday"), ("abcdef", "bcdefa"), ("abc", "vwxyz")):
            self.check(one, other)
            self.check(other, one)

    def test_all_small_texts(self):
        texts = texts_up_to(3, "abc")
        for one in texts:
            for other in texts:
                self.check(one, other)

    def test_sixty_signs(self):
        for one, other in (
            (SIGNS[:60], SIGNS[:60]),
            (SIGNS[:60], SIGNS[-60:]),
            ("a" * 60, "b" * 60),
            ("ab" * 30, "ba" * 30),
            ("", "x" * 60),
        ):
            self.check(one, other)
            self.check(other, one)

    def test_a_new_list_each_time(self):
        for one, other in (("", ""), ("bob", "rob"), ("ann", "ann")):
            told = way_of(one, other)
            again = way_of(one, other)
            self.assertIsNot(told, again)
            kept = list(again)
            told.append(("put", "z"))
            told[0] = ("cut", "z")
            self.assertEqual(again, kept)
            self.assertEqual(way_of(one, other), kept)


class TestNear(unittest.TestCase):
    def check(self, one, other, told):
        self.assertIs(is_near(one, other), told, (one, other))
        self.assertIs(is_near(other, one), told, (other, one))

    def test_distance_nought(self):
        self.check("", "", True)
        self.check("ann", "ann", True)
        self.check("ANN", "ann", True)
        self.check("  Ann   Bo ", "ann bo", True)
        self.check("    ", "", True)

    def test_distance_one(self):
        self.check("", "a", True)
        self.check("a", "b", True)
        self.check("ann", "anna", True)
        self.check("ann", "nn", True)
        self.check("ann", "axn", True)
        self.check("ann bo", "annbo", True)
        self.check("  ANNA  Bo", "ann bo ", True)
        self.check("B" * 60, "b" * 59 + "c", True)

    def test_distance_two(self):
        self.check("", "ab", False)
        self.check("ab", "ba", False)
        self.check("ann", "annab", False)
        self.check("ann", "xnx", False)
        self.check("a", "bc", False)
        self.check("a b c", "abc", False)
        self.check(" ANN ", "an na b", False)
        self.check("b" * 60, "c" + "b" * 58 + "c", False)

    def test_far(self):
        self.check("ann", "zebediah", False)
        self.check("", "x" * 60, False)

    def test_as_the_distance_says(self):
        texts = texts_up_to(5, "ab") + texts_up_to(4, " aB")
        plains = [plain_of(text) for text in texts]
        for one, plain in zip(texts, plains):
            for other, target in zip(texts, plains):
                self.assertIs(is_near(one, other), distance(plain, target) <= 1, (one, other))


if __name__ == "__main__":
    unittest.main()
