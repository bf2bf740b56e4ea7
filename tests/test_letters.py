import unittest

from folk.letters import is_like, plain_of
from samples import SIGNS, texts_up_to

GREAT = "ABCDEFGHIJKLMNOPQRSTUVWXYZ"
SMALL = "abcdefghijklmnopqrstuvwxyz"


class TestPlain(unittest.TestCase):
    def test_great_letters_become_small(self):
        self.assertEqual(plain_of(GREAT), SMALL)
        self.assertEqual(plain_of(SMALL), SMALL)
        self.assertEqual(plain_of("aNNa McBo"), "anna mcbo")

    def test_every_other_sign_stays(self):
        for sign in SIGNS:
            if sign != " " and sign not in GREAT:
                self.assertEqual(plain_of(sign), sign)
                self.assertEqual(plain_of("x" + sign + "y"), "x" + sign + "y")

    def test_blanks_first_and_last_go(self):
        self.assertEqual(plain_of(" ann"), "ann")
        self.assertEqual(plain_of("ann "), "ann")
        self.assertEqual(plain_of("   ann  "), "ann")

    def test_several_blanks_become_one(self):
        self.assertEqual(plain_of("ann bo"), "ann bo")
        self.assertEqual(plain_of("ann  bo"), "ann bo")
        self.assertEqual(plain_of("ann   bo     cy"), "ann bo cy")
        self.assertEqual(plain_of("  A  b   C "), "a b c")

    def test_blanks_alone_and_no_sign(self):
        self.assertEqual(plain_of(""), "")
        self.assertEqual(plain_of(" "), "")
        self.assertEqual(plain_of(" " * 60), "")

    def test_put_plain_once_more_it_stays(self):
        for text in texts_up_to(5, " aB-"):
            plain = plain_of(text)
            self.assertEqual(plain_of(plain), plain)

    def test_each_small_text_is_as_the_words_say(self):
        for text in texts_up_to(5, " aB-"):
            plain = plain_of(text)
            self.assertFalse(plain.startswith(" ") or plain.endswith(" "), text)
            self.assertNotIn("  ", plain)
            self.assertEqual(plain.replace(" ", ""), text.replace("B", "b").replace(" ", ""))
            self.assertEqual(plain.split(), text.replace("B", "b").split())

    def test_sixty_signs(self):
        self.assertEqual(plain_of("Ab" * 30), "ab" * 30)
        self.assertEqual(plain_of("A " * 30), ("a " * 30)[:-1])


class TestLike(unittest.TestCase):
    def check(self, one, other, told):
        self.assertIs(is_like(one, other), told, (one, other))
        self.assertIs(is_like(other, one), told, (other, one))

    def test_like(self):
        self.check("", "", True)
        self.check("", "   ", True)
        self.check("ann", "ann", True)
        self.check("Ann", "aNN", True)
        self.check("Ann Bo", "  ann   BO ", True)
        self.check("o'bo-1 ", "O'BO-1", True)

    def test_not_like(self):
        self.check("", "a", False)
        self.check("ann", "anne", False)
        self.check("ann bo", "annbo", False)
        self.check("ann", "nan", False)
        self.check("ann", "ann.", False)
        # These stand as far from each other as a great letter from its small one.
        self.check("[", "{", False)
        self.check("@", "`", False)


if __name__ == "__main__":
    unittest.main()
