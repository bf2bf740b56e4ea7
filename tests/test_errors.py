import unittest

from folk.errors import FolkError, NoName, NoPair, NoRow, NoText, Odds, TooMany

SIX = {
    NoRow: (3,),
    Odds: (["ann", "bo"],),
    TooMany: (8,),
    NoPair: (),
    NoText: (),
    NoName: ("ann",),
}


class TestErrors(unittest.TestCase):
    def test_folk_error_is_a_value_error(self):
        self.assertTrue(issubclass(FolkError, ValueError))
        with self.assertRaises(ValueError):
            raise FolkError()

    def test_each_is_a_folk_error_and_a_value_error(self):
        for kind, values in SIX.items():
            with self.subTest(kind=kind.__name__):
                with self.assertRaises(FolkError):
                    raise kind(*values)
                with self.assertRaises(ValueError):
                    raise kind(*values)

    def test_none_stands_under_another(self):
        for kind in SIX:
            for other in SIX:
                if kind is not other:
                    self.assertFalse(issubclass(kind, other), (kind, other))

    def test_each_is_taken_by_its_own_name(self):
        for kind, values in SIX.items():
            for other in SIX:
                if kind is other:
                    continue
                with self.subTest(kind=kind.__name__, other=other.__name__):
                    with self.assertRaises(kind):
                        try:
                            raise kind(*values)
                        except other:
                            self.fail("taken by another's name")

    def test_values_are_as_they_were_made(self):
        for row in (1, 2, 700):
            self.assertEqual(NoRow(row).row, row)
        for chain in (["ann"], ["ann", "bo"], ["ann", "cy", "bo"]):
            self.assertEqual(Odds(chain).chain, chain)
            self.assertIsInstance(Odds(chain).chain, list)
        for count in (8, 40):
            self.assertEqual(TooMany(count).count, count)
        for name in ("a", "abcdefghijkl"):
            self.assertEqual(NoName(name).name, name)

    def test_values_are_there_when_taken(self):
        with self.assertRaises(NoRow) as taken:
            raise NoRow(5)
        self.assertEqual(taken.exception.row, 5)

    def test_two_of_a_class_have_their_own_values(self):
        one = NoRow(1)
        other = NoRow(2)
        self.assertEqual((one.row, other.row), (1, 2))

    def test_a_chain_is_kept_as_a_copy(self):
        chain = ["ann", "bo"]
        error = Odds(chain)
        chain.append("cy")
        self.assertEqual(error.chain, ["ann", "bo"])
        error.chain.append("di")
        self.assertEqual(chain, ["ann", "bo", "cy"])

    def test_each_can_be_shown(self):
        for kind, values in SIX.items():
            self.assertIsInstance(str(kind(*values)), str)


if __name__ == "__main__":
    unittest.main()
