"""[3.4]: only and told."""

import itertools
import unittest

from keyfold.cutting import only, told
from keyfold.pairs import common, joined, less
from tests.checks import FoldCase
from tests.samples import ELM, EVERY_LEAF, NONE, OAK, TREES, drawn_folds, drawn_orders, each_fold, names_by_thing

NAMES = ("ash", "elm", "oak")
SOME_NAMES = [names for many in range(4) for names in itertools.combinations(NAMES, many)]
STRANGE = [("yew",), ("elm", "yew"), ("a", "ash", "oak", "zzzzzzzz")]


class Only(FoldCase):
    def holds(self, fold, names, order):
        kept = {thing: set(held) & set(names) for thing, held in names_by_thing(fold, len(order)).items()}
        self.answers_so(only(fold, names, order), kept, order, (fold, names, order))

    def test_ordinary(self):
        fold = (OAK, ELM, TREES, (1, 1, 2), (0, 0, 3))
        self.assertEqual(only(fold, ("oak",), (0, 1)), (OAK, NONE, (1, 1, 0), (0, 0, 2)))
        self.assertEqual(only(fold, ("elm",), (0, 1)), (NONE, ELM, (0, 0, 1)))
        self.assertEqual(only(fold, ("ash", "oak"), (0, 1))[2], ("names", ("ash", "oak")))

    def test_no_names_and_all(self):
        for order in ((0,), (1, 0), (2, 0, 1), (3, 1, 0, 2), drawn_orders(1, 10)[0]):
            for fold in drawn_folds(8, order):
                self.assertEqual(only(fold, (), order), (NONE,))
                self.assertEqual(only(fold, NAMES, order), fold)
                self.assertEqual(only(fold, ("a",) + NAMES + ("yew",), order), fold)

    def test_a_name_that_never_stands(self):
        for order in ((0,), (1, 0), (2, 0, 1)):
            for fold in drawn_folds(8, order):
                self.assertEqual(only(fold, ("yew",), order), (NONE,))
                self.assertEqual(only(fold, ("elm", "yew"), order), only(fold, ("elm",), order))

    def test_part_of_a_name_is_not_that_name(self):
        self.assertEqual(only((OAK,), ("o", "oa", "oaks"), (0,)), (NONE,))
        self.assertEqual(only((("names", ("o", "oa", "oaks")),), ("oak",), (0,)), (NONE,))

    def test_every_small_fold(self):
        for names in SOME_NAMES + STRANGE:
            for fold in each_fold((0,), EVERY_LEAF):
                self.holds(fold, names, (0,))
            for fold in each_fold((1, 0), (NONE, OAK, TREES)):
                self.holds(fold, names, (1, 0))

    def test_greater_folds(self):
        for many, count in ((3, 9), (5, 6), (10, 2)):
            for order in drawn_orders(2, many):
                for fold, names in itertools.product(drawn_folds(count, order), SOME_NAMES + STRANGE):
                    self.holds(fold, names, order)

    def test_as_common_with_a_row_of_these_names(self):
        for order in ((0,), (1, 0), (2, 0, 1), (3, 1, 0, 2)):
            for fold, names in itertools.product(drawn_folds(8, order), SOME_NAMES + STRANGE):
                self.assertEqual(only(fold, names, order), common(fold, (("names", names),), order))

    def test_these_and_the_others_join_to_the_fold(self):
        for order in ((1, 0), (2, 0, 1)):
            for fold, names in itertools.product(drawn_folds(8, order), SOME_NAMES):
                others = tuple(name for name in NAMES if name not in names)
                self.assertEqual(joined(only(fold, names, order), only(fold, others, order), order), fold)
                self.assertEqual(less(fold, only(fold, names, order), order), only(fold, others, order))


class Told(FoldCase):
    def holds(self, fold, name, order):
        held = names_by_thing(fold, len(order))
        names = {thing: (name,) if name in held[thing] else () for thing in held}
        self.answers_so(told(fold, name, order), names, order, (fold, name, order))

    def test_ordinary(self):
        fold = (OAK, ELM, TREES, (1, 1, 2), (0, 0, 3))
        self.assertEqual(told(fold, "oak", (0, 1)), (OAK, NONE, (1, 1, 0), (0, 0, 2)))
        self.assertEqual(told(fold, "elm", (0, 1)), (NONE, ELM, (0, 0, 1)))

    def test_always_and_never(self):
        self.assertEqual(told((TREES,), "ash", (0,)), (("names", ("ash",)),))
        self.assertEqual(told((OAK, TREES, (0, 0, 1)), "oak", (0,)), (OAK,))
        self.assertEqual(told((OAK, TREES, (0, 0, 1)), "yew", (0,)), (NONE,))
        self.assertEqual(told((NONE,), "oak", (0,)), (NONE,))

    def test_part_of_a_name_is_not_that_name(self):
        self.assertEqual(told((OAK,), "oa", (0,)), (NONE,))
        self.assertEqual(told((("names", ("oaks",)),), "oak", (0,)), (NONE,))
        self.assertEqual(told((("names", ("a", "o", "oa")),), "oak", (0,)), (NONE,))

    def test_every_small_fold(self):
        for name in NAMES + ("yew",):
            for fold in each_fold((0,), EVERY_LEAF):
                self.holds(fold, name, (0,))
            for fold in each_fold((1, 0), (NONE, OAK, TREES)):
                self.holds(fold, name, (1, 0))

    def test_greater_folds(self):
        for many, count in ((3, 9), (5, 6), (10, 2)):
            for order in drawn_orders(2, many):
                for fold, name in itertools.product(drawn_folds(count, order), NAMES + ("yew", "o")):
                    self.holds(fold, name, order)

    def test_one_name_after_another_joins_to_the_fold(self):
        for order in ((0,), (1, 0), (2, 0, 1)):
            for fold in drawn_folds(8, order):
                made = (NONE,)
                for name in NAMES:
                    made = joined(made, told(fold, name, order), order)
                self.assertEqual(made, fold)


if __name__ == "__main__":
    unittest.main()
