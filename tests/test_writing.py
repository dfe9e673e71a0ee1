"""[1.2]: written, and NoKey."""

import unittest

from keyfold.errors import FoldError, NoKey, NoText
from keyfold.writing import written

NONE = ("names", ())
OAK = ("names", ("oak",))
TREES = ("names", ("ash", "elm", "oak"))


class Written(unittest.TestCase):
    def test_leaves(self):
        self.assertEqual(written(NONE, 1), "names end")
        self.assertEqual(written(OAK, 1), "names oak end")
        self.assertEqual(written(TREES, 10), "names ash elm oak end")

    def test_an_ask_tells_no_ahead_of_yes(self):
        self.assertEqual(written(("ask", 0, NONE, OAK), 1), "ask 0 names end names oak end")
        self.assertEqual(written(("ask", 9, OAK, NONE), 10), "ask 9 names oak end names end")

    def test_a_character_of_two_digits(self):
        self.assertEqual(written(("ask", 10, OAK, NONE), 11), "ask 10 names oak end names end")

    def test_asks_several_deep(self):
        key = ("ask", 2, ("ask", 0, OAK, ("ask", 2, NONE, TREES)), ("ask", 1, TREES, NONE))
        told = (
            "ask 2 ask 0 names oak end ask 2 names end names ash elm oak end"
            " ask 1 names ash elm oak end names end"
        )
        self.assertEqual(written(key, 3), told)

    def test_twelve_deep(self):
        key = OAK
        for character in range(12):
            key = ("ask", character % 10, key, NONE)
        asks = [f"ask {character % 10}" for character in reversed(range(12))]
        self.assertEqual(written(key, 10), " ".join(asks + ["names oak end"] + ["names end"] * 12))
        with self.assertRaises(NoKey):
            written(("ask", 0, key, NONE), 10)

    def test_no_keys(self):
        wrong = [
            None, 0, True, "", "names end", (), [], ("names",), ["names", ()], ("names", []), ("names", ("b", "a")),
            ("names", ("end",)), ("ask", 0, OAK), ("ask", True, OAK, NONE), ("ask", -1, OAK, NONE),
            ("ask", 0, OAK, ["names", ()]), ("ask", 0, OAK, None), ("ask", "0", OAK, NONE),
        ]
        for thing in wrong:
            with self.subTest(thing=thing), self.assertRaises(NoKey):
                written(thing, 2)

    def test_a_key_of_more_characters(self):
        key = ("ask", 1, NONE, ("ask", 2, NONE, OAK))
        self.assertEqual(written(key, 3), "ask 1 names end ask 2 names end names oak end")
        for many in (1, 2):
            with self.subTest(many=many), self.assertRaises(NoKey):
                written(key, many)

    def test_the_refusal_is_taken_by_its_bases(self):
        for base in (NoKey, FoldError, ValueError):
            with self.subTest(base=base), self.assertRaises(base):
                written((), 1)
        try:
            written((), 1)
        except NoText:
            self.fail("NoText in the place of NoKey")
        except NoKey:
            pass


if __name__ == "__main__":
    unittest.main()
