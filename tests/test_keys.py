"""[0.5], [1.1]: keys."""

import unittest

from keyfold.things import is_key

NONE = ("names", ())
OAK = ("names", ("oak",))


def chain(depth, side, innermost=OAK):
    """A key whose innermost key lies in as many others as told, always on one side."""
    key = innermost
    for step in range(depth):
        parts = (NONE, key) if side == "yes" else (key, NONE)
        key = ("ask", step % 3) + parts
    return key


class Keys(unittest.TestCase):
    def told(self, answer, pairs):
        for thing, many in pairs:
            with self.subTest(thing=thing, many=many):
                self.assertIs(is_key(thing, many), answer)

    def test_a_leaf_alone(self):
        self.told(True, [(NONE, 1), (OAK, 1), (("names", ("ash", "oak")), 10)])

    def test_asks(self):
        self.told(True, [(("ask", 0, NONE, OAK), 1), (("ask", 9, OAK, OAK), 10)])
        self.told(True, [(("ask", 1, ("ask", 0, OAK, NONE), ("ask", 2, NONE, OAK)), 3)])

    def test_one_character_asked_twice(self):
        self.told(True, [(("ask", 0, NONE, ("ask", 0, NONE, OAK)), 1)])
        self.told(True, [(("ask", 0, ("ask", 1, ("ask", 0, OAK, NONE), OAK), NONE), 2)])

    def test_no_key_lies_in_more_than_twelve(self):
        for side in ("no", "yes"):
            self.told(True, [(chain(depth, side), 3) for depth in range(13)])
            self.told(False, [(chain(depth, side), 3) for depth in range(13, 32)])

    def test_an_ask_may_lie_in_eleven_but_not_in_twelve(self):
        ask = ("ask", 0, NONE, OAK)
        for side in ("no", "yes"):
            self.told(True, [(chain(11, side, ask), 3)])
            self.told(False, [(chain(12, side, ask), 3)])

    def test_a_full_key_of_twelve(self):
        key = OAK
        for step in range(12):
            key = ("ask", step % 10, key, key)
        self.told(True, [(key, 10)])
        self.told(False, [(("ask", 0, key, key), 10)])

    def test_characters(self):
        wrong = [1, 2, -1, 10**30, True, False, None, "0", "", (0,), [0]]
        self.told(False, [(("ask", character, NONE, OAK), 1) for character in wrong])
        self.told(False, [(("ask", True, NONE, OAK), 2), (("ask", 3, NONE, OAK), 3), (("ask", -1, NONE, OAK), 3)])
        self.told(False, [(("ask", 0, NONE, ("ask", 2, NONE, OAK)), 2)])
        self.told(False, [(("ask", 0, ("ask", False, NONE, OAK), OAK), 2)])

    def test_too_few_or_too_many_parts(self):
        self.told(False, [((), 1), (("names",), 1), (("names", (), ()), 1), (("names", ("oak",), NONE), 1)])
        self.told(False, [(("ask",), 1), (("ask", 0), 1), (("ask", 0, NONE), 1), (("ask", 0, NONE, OAK, OAK), 1)])
        self.told(False, [(("ask", 0, NONE, ("names",)), 1), (("ask", 0, ("ask", 0, NONE), OAK), 1)])

    def test_other_first_words(self):
        self.told(False, [(("name", ()), 1), (("NAMES", ()), 1), (("end", ()), 1), ((0, ()), 1), ((None, ()), 1)])
        self.told(False, [(("asks", 0, NONE, OAK), 1), (("names", 0, NONE, OAK), 1), ((0, 0, NONE, OAK), 1)])
        self.told(False, [(("ask", ("oak",)), 1), ((0, NONE, OAK), 1), (((), 0, NONE, OAK), 1), (((), ()), 1)])

    def test_leaves_with_wrong_names(self):
        wrong = [("",), ("Oak",), ("oak", "ash"), ("oak", "oak"), ("ask",), ("oaktreesx",), (1,), "oak", None, 0]
        self.told(False, [(("names", names), 1) for names in wrong])
        self.told(False, [(("ask", 0, OAK, ("names", names)), 1) for names in wrong])
        self.told(False, [(("ask", 0, ("names", names), OAK), 1) for names in wrong])

    def test_parts_that_are_no_keys(self):
        wrong = [None, 0, True, "", "names", (), ("oak",), ((),)]
        self.told(False, [(("ask", 0, OAK, part), 1) for part in wrong])
        self.told(False, [(("ask", 0, part, OAK), 1) for part in wrong])
        self.told(False, [(thing, 1) for thing in wrong])

    def test_lists(self):
        self.told(False, [(["names", ()], 1), (("names", []), 1), (("names", ["oak"]), 1), (["ask", 0, NONE, OAK], 1)])
        self.told(False, [(("ask", 0, ["names", ()], OAK), 1), (("ask", 0, OAK, ["names", ()]), 1), ([], 1)])

    def test_lists_deep_within(self):
        for innermost in (["names", ("oak",)], ("names", ["oak"]), ["ask", 0, NONE, OAK]):
            for side in ("no", "yes"):
                self.told(False, [(chain(depth, side, innermost), 3) for depth in (1, 5, 11)])


if __name__ == "__main__":
    unittest.main()
