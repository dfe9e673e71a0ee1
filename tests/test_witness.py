"""[4.3]: witness."""

import itertools
import unittest

from keyfold.asking import count_name, witness
from tests.samples import (
    ELM, EVERY_LEAF, NONE, OAK, TREES, agreeing, drawn_folds, drawn_orders, drawn_sheets, each_fold, each_sheet,
    each_thing, fold_answering, names_for,
)

NAMES = ("ash", "elm", "oak", "yew")


class Witness(unittest.TestCase):
    def holds(self, fold, sheet):
        for name in NAMES:
            things = sorted(thing for thing in agreeing(sheet) if name in names_for(fold, thing))
            told = witness(fold, name, sheet)
            self.assertEqual(told, things[0] if things else None, (fold, name, sheet))
            self.assertEqual(told is None, count_name(fold, name, sheet) == 0)

    def test_ordinary(self):
        fold = (OAK, NONE, ELM, (1, 1, 2), (0, 0, 3))
        self.assertEqual(witness(fold, "oak", (None, None)), (0, 0))
        self.assertEqual(witness(fold, "oak", (None, 1)), (0, 1))
        self.assertEqual(witness(fold, "elm", (None, None)), (1, 1))
        self.assertEqual(witness(fold, "oak", (0, 1)), (0, 1))

    def test_none_where_there_is_none(self):
        fold = (OAK, NONE, ELM, (1, 1, 2), (0, 0, 3))
        self.assertIsNone(witness(fold, "yew", (None, None)))
        self.assertIsNone(witness(fold, "oa", (None, None)))
        self.assertIsNone(witness((NONE,), "oak", (None,)))

    def test_none_where_the_sheet_leaves_none(self):
        fold = (OAK, NONE, ELM, (1, 1, 2), (0, 0, 3))
        self.assertIsNone(witness(fold, "oak", (1, None)))
        self.assertIsNone(witness(fold, "elm", (None, 0)))
        self.assertIsNone(witness(fold, "oak", (1, 1)))

    def test_the_least_by_the_numbers_whatever_the_order(self):
        names = {thing: ("oak",) if thing in ((0, 1, 1), (1, 0, 0)) else () for thing in each_thing(3)}
        for order in itertools.permutations(range(3)):
            self.assertEqual(witness(fold_answering(names, order), "oak", (None,) * 3), (0, 1, 1))

    def test_characters_that_are_not_asked_are_0(self):
        self.assertEqual(witness((NONE, OAK, (4, 0, 1)), "oak", (None,) * 10), (0,) * 4 + (1,) + (0,) * 5)
        self.assertEqual(witness((OAK,), "oak", (None,) * 10), (0,) * 10)
        self.assertEqual(witness((OAK,), "oak", (None, 1, None)), (0, 1, 0))

    def test_the_last_thing_of_all(self):
        rows = [NONE, OAK]
        for number, character in enumerate((7, 1, 4, 0, 5, 9, 2, 6, 8, 3)):
            rows.append((character, 0, number + 1))
        self.assertEqual(witness(tuple(rows), "oak", (None,) * 10), (1,) * 10)
        self.assertIsNone(witness(tuple(rows), "oak", (None,) * 9 + (0,)))

    def test_every_small_fold_by_every_sheet(self):
        for many, leaves in ((1, EVERY_LEAF), (2, (NONE, OAK, TREES)), (3, (ELM, OAK))):
            for order in drawn_orders(2, many):
                for fold, sheet in itertools.product(each_fold(order, leaves), each_sheet(many)):
                    self.holds(fold, sheet)

    def test_greater_folds(self):
        for many in (4, 6, 10):
            for order in drawn_orders(2, many):
                for fold, sheet in itertools.product(drawn_folds(4, order), drawn_sheets(8, many)):
                    self.holds(fold, sheet)

    def test_names_that_few_things_have(self):
        for many in (5, 8):
            things = each_thing(many)
            for step, order in enumerate(drawn_orders(6, many)):
                few = things[step + 3::11]
                fold = fold_answering({thing: ("oak",) if thing in few else () for thing in things}, order)
                for sheet in drawn_sheets(10, many):
                    self.holds(fold, sheet)


if __name__ == "__main__":
    unittest.main()
