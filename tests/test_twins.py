"""[4.5]: twins and parting."""

import itertools
import unittest

from keyfold.cutting import turned
from keyfold.twins import parting, twins
from tests.samples import (
    ELM, EVERY_LEAF, NONE, OAK, TREES, drawn_folds, drawn_orders, each_fold, each_thing, fold_answering,
    names_by_thing,
)

BOTH = ("names", ("elm", "oak"))
WIDE = [("names", tuple(names)) for names in ("abe", "cde", "abcd", "", "f", "cdf", "abgh", "gh")]


class Twins(unittest.TestCase):
    def holds(self, fold, many):
        answers = list(names_by_thing(fold, many).values())
        names = sorted({name for some in answers for name in some})
        told = []
        for one, other in itertools.product(names, repeat=2):
            if one < other and all((one in some) == (other in some) for some in answers):
                told.append((one, other))
        self.assertEqual(twins(fold), tuple(told), (fold, many))
        return told

    def test_names_that_always_stand_together(self):
        self.assertEqual(twins((NONE, BOTH, (0, 0, 1))), (("elm", "oak"),))
        self.assertEqual(twins((TREES,)), (("ash", "elm"), ("ash", "oak"), ("elm", "oak")))
        self.assertEqual(twins((("names", ("ash",)), BOTH, (0, 0, 1))), (("elm", "oak"),))

    def test_names_that_never_stand_together(self):
        self.assertEqual(twins((ELM, OAK, (0, 0, 1))), ())
        self.assertEqual(twins((ELM, NONE, OAK, (1, 1, 2), (0, 0, 3))), ())

    def test_names_that_stand_together_at_times(self):
        self.assertEqual(twins((OAK, BOTH, (0, 0, 1))), ())
        self.assertEqual(twins((ELM, BOTH, (0, 0, 1))), ())
        self.assertEqual(twins((BOTH, TREES, (0, 0, 1))), (("elm", "oak"),))

    def test_one_name_and_none(self):
        self.assertEqual(twins((OAK,)), ())
        self.assertEqual(twins((NONE,)), ())
        self.assertEqual(twins((NONE, OAK, (0, 0, 1))), ())

    def test_several_that_go_together_rising(self):
        fold = (("names", tuple("acf")), ("names", tuple("bde")), (0, 0, 1))
        pairs = (("a", "c"), ("a", "f"), ("b", "d"), ("b", "e"), ("c", "f"), ("d", "e"))
        self.assertEqual(twins(fold), pairs)

    def test_every_small_fold(self):
        for many, leaves in ((1, EVERY_LEAF), (2, (NONE, OAK, BOTH, TREES)), (3, (ELM, BOTH))):
            for order in itertools.permutations(range(many)):
                for fold in each_fold(order, leaves):
                    self.holds(fold, many)

    def test_greater_folds(self):
        found = []
        for many, count in ((3, 20), (5, 9), (10, 3)):
            for order in drawn_orders(3, many):
                for fold in drawn_folds(count, order) + drawn_folds(count, order, WIDE):
                    found.extend(self.holds(fold, many))
                for fold in drawn_folds(count, order, WIDE[:3]):
                    found.extend(self.holds(fold, many))
        self.assertGreater(len(set(found)), 5)

    def test_whatever_the_order(self):
        for order, new in itertools.permutations(drawn_orders(3, 4), 2):
            for fold in drawn_folds(6, order, WIDE):
                self.assertEqual(twins(turned(fold, new)), twins(fold))


class Parting(unittest.TestCase):
    def holds(self, fold, one, other, many):
        names = names_by_thing(fold, many)
        things = sorted(thing for thing in names if (one in names[thing]) != (other in names[thing]))
        told = things[0] if things else None
        self.assertEqual(parting(fold, one, other, many), told, (fold, one, other, many))
        self.assertEqual(parting(fold, other, one, many), told, (fold, other, one, many))

    def test_ordinary(self):
        fold = (BOTH, ELM, (1, 0, 1), OAK, (0, 2, 3))
        self.assertEqual(parting(fold, "elm", "oak", 2), (0, 1))
        self.assertEqual(parting(fold, "oak", "elm", 2), (0, 1))
        self.assertEqual(parting(fold, "ash", "oak", 2), (0, 0))
        self.assertEqual(parting(fold, "elm", "oak", 4), (0, 1, 0, 0))

    def test_none_where_there_is_none(self):
        self.assertIsNone(parting((NONE, BOTH, (0, 0, 1)), "elm", "oak", 1))
        self.assertIsNone(parting((TREES,), "ash", "oak", 10))
        self.assertIsNone(parting((NONE,), "elm", "oak", 2))
        self.assertIsNone(parting((OAK,), "ash", "yew", 2))

    def test_a_name_and_itself(self):
        for name in ("elm", "oak", "yew"):
            self.assertIsNone(parting((NONE, BOTH, (0, 0, 1)), name, name, 1))

    def test_a_name_that_never_stands(self):
        self.assertEqual(parting((NONE, OAK, (0, 0, 1)), "oak", "yew", 2), (1, 0))
        self.assertEqual(parting((NONE, OAK, (0, 0, 1)), "yew", "oak", 2), (1, 0))
        self.assertEqual(parting((OAK,), "oak", "yew", 10), (0,) * 10)

    def test_the_least_by_the_numbers_whatever_the_order(self):
        names = {thing: ("elm", "oak") for thing in each_thing(3)}
        names[(0, 1, 1)] = ("elm",)
        names[(1, 0, 0)] = ("oak",)
        for order in itertools.permutations(range(3)):
            self.assertEqual(parting(fold_answering(names, order), "elm", "oak", 3), (0, 1, 1))

    def test_the_last_thing_of_all(self):
        rows = [BOTH, OAK]
        for number, character in enumerate((7, 1, 4, 0, 5, 9, 2, 6, 8, 3)):
            rows.append((character, 0, number + 1))
        self.assertEqual(parting(tuple(rows), "elm", "oak", 10), (1,) * 10)

    def test_every_small_fold(self):
        for many, leaves in ((1, EVERY_LEAF), (2, (NONE, OAK, BOTH, TREES)), (3, (ELM, BOTH))):
            for order in itertools.permutations(range(many)):
                for fold in each_fold(order, leaves):
                    for one, other in (("elm", "oak"), ("ash", "oak"), ("elm", "yew"), ("oak", "oak")):
                        self.holds(fold, one, other, many)

    def test_greater_folds(self):
        for many, count in ((4, 6), (6, 4), (10, 2)):
            for order in drawn_orders(2, many):
                for fold in drawn_folds(count, order, WIDE):
                    for one, other in itertools.combinations("abcdefgz", 2):
                        self.holds(fold, one, other, many)

    def test_twins_are_just_the_names_that_are_not_parted(self):
        for order in drawn_orders(3, 4):
            for fold in drawn_folds(9, order, WIDE) + drawn_folds(9, order, WIDE[:3]):
                names = sorted({name for row in fold if len(row) == 2 for name in row[1]})
                pairs = itertools.combinations(names, 2)
                told = tuple(pair for pair in pairs if parting(fold, pair[0], pair[1], 4) is None)
                self.assertEqual(twins(fold), told)


if __name__ == "__main__":
    unittest.main()
