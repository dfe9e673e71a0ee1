"""[3.2]: known."""

import unittest

from keyfold.cutting import known
from keyfold.pairs import common, joined, less
from tests.checks import FoldCase
from tests.samples import (
    ELM, EVERY_LEAF, NONE, OAK, TREES, as_known, drawn_folds, drawn_orders, drawn_sheets, each_fold, each_sheet,
    each_thing, names_by_thing, names_for,
)


class Known(FoldCase):
    def holds(self, fold, sheet, order):
        cut = known(fold, sheet, order)
        told = {thing: names_for(fold, as_known(thing, sheet)) for thing in each_thing(len(order))}
        self.answers_so(cut, told, order, (fold, sheet, order))
        return cut

    def test_ordinary(self):
        fold = (OAK, NONE, ELM, (1, 1, 2), (0, 0, 3))
        self.assertEqual(known(fold, (None, None), (0, 1)), fold)
        self.assertEqual(known(fold, (0, None), (0, 1)), (OAK,))
        self.assertEqual(known(fold, (1, None), (0, 1)), (NONE, ELM, (1, 0, 1)))
        self.assertEqual(known(fold, (None, 0), (0, 1)), (OAK, NONE, (0, 0, 1)))
        self.assertEqual(known(fold, (None, 1), (0, 1)), (OAK, ELM, (0, 0, 1)))
        self.assertEqual(known(fold, (1, 0), (0, 1)), (NONE,))
        self.assertEqual(known(fold, (1, 1), (0, 1)), (ELM,))

    def test_a_character_above_that_no_longer_matters(self):
        fold = (OAK, NONE, (1, 0, 1), ELM, (1, 0, 3), (0, 2, 4))
        self.assertEqual(known(fold, (None, 0), (0, 1)), (OAK,))
        self.assertEqual(known(fold, (None, 1), (0, 1)), (NONE, ELM, (0, 0, 1)))

    def test_rows_alone(self):
        for leaf in (NONE, OAK, TREES):
            for sheet in each_sheet(3):
                self.assertEqual(known((leaf,), sheet, (2, 0, 1)), (leaf,))

    def test_small_folds_by_every_sheet(self):
        for fold in each_fold((0,), EVERY_LEAF):
            for sheet in each_sheet(1):
                self.holds(fold, sheet, (0,))
        for order in ((0, 1), (1, 0)):
            for fold in each_fold(order, (NONE, OAK, ELM)):
                for sheet in each_sheet(2):
                    self.holds(fold, sheet, order)

    def test_greater_folds(self):
        for many in (3, 5, 10):
            for order in drawn_orders(2, many):
                for fold in drawn_folds(4, order):
                    for sheet in drawn_sheets(6, many):
                        self.holds(fold, sheet, order)

    def test_a_character_that_is_known_is_asked_no_more(self):
        for order in drawn_orders(4, 4):
            for fold in drawn_folds(6, order):
                for sheet in each_sheet(4):
                    for row in known(fold, sheet, order):
                        self.assertTrue(len(row) == 2 or sheet[row[0]] is None)

    def test_with_nothing_known_it_is_the_same_fold(self):
        for many in (1, 2, 4, 10):
            for order in drawn_orders(3, many):
                for fold in drawn_folds(6, order):
                    self.assertEqual(known(fold, (None,) * many, order), fold)

    def test_with_all_known_it_is_one_row(self):
        for many in (1, 2, 4, 6):
            for order in drawn_orders(2, many):
                for fold in drawn_folds(5, order):
                    for thing, names in names_by_thing(fold, many).items():
                        self.assertEqual(known(fold, thing, order), (("names", names),))

    def test_twice_is_once(self):
        for order in ((0,), (1, 0), (2, 0, 1), (1, 3, 0, 2)):
            for fold in drawn_folds(8, order):
                for sheet in each_sheet(len(order)):
                    cut = known(fold, sheet, order)
                    self.assertEqual(known(cut, sheet, order), cut)

    def test_one_character_after_another(self):
        for order in drawn_orders(3, 4):
            for fold in drawn_folds(6, order):
                for sheet in drawn_sheets(6, 4):
                    cut = fold
                    for character, value in enumerate(sheet):
                        single = tuple(value if place == character else None for place in range(4))
                        cut = known(cut, single, order)
                    self.assertEqual(known(fold, sheet, order), cut)

    def test_through_joined_common_and_less(self):
        for order in ((0,), (1, 0), (2, 0, 1), (3, 1, 0, 2)):
            folds = drawn_folds(7, order)
            for one in folds:
                for other in folds:
                    for sheet in drawn_sheets(4, len(order)):
                        cut, beside = known(one, sheet, order), known(other, sheet, order)
                        for call in (joined, common, less):
                            self.assertEqual(known(call(one, other, order), sheet, order), call(cut, beside, order))


if __name__ == "__main__":
    unittest.main()
