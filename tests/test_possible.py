"""[0.2] (c), [4.1]: possible and sure."""

import itertools
import unittest

from keyfold.asking import possible, sure
from keyfold.cutting import known
from tests.samples import (
    ELM, EVERY_LEAF, NONE, OAK, TREES, agreeing, drawn_folds, drawn_orders, drawn_sheets, each_fold, each_sheet,
    names_by_thing, names_for,
)

BOTH = ("names", ("elm", "oak"))


def known_further(sheet):
    """Each sheet with one character more known."""
    for character in range(len(sheet)):
        if sheet[character] is None:
            for value in (0, 1):
                yield sheet[:character] + (value,) + sheet[character + 1:]


def folds_and_sheets():
    for many, count in ((1, 20), (2, 20), (3, 12), (4, 6)):
        for order in drawn_orders(2, many):
            for fold, sheet in itertools.product(drawn_folds(count, order), each_sheet(many)):
                yield fold, sheet


class PossibleAndSure(unittest.TestCase):
    def holds(self, fold, sheet):
        answers = [set(names_for(fold, thing)) for thing in agreeing(sheet)]
        self.assertEqual(possible(fold, sheet), tuple(sorted(set.union(*answers))), (fold, sheet))
        self.assertEqual(sure(fold, sheet), tuple(sorted(set.intersection(*answers))), (fold, sheet))

    def test_ordinary(self):
        fold = (OAK, BOTH, (1, 0, 1), TREES, (0, 2, 3))
        self.assertEqual(possible(fold, (None, None)), ("ash", "elm", "oak"))
        self.assertEqual(sure(fold, (None, None)), ("oak",))
        self.assertEqual(possible(fold, (0, None)), ("elm", "oak"))
        self.assertEqual(sure(fold, (0, None)), ("oak",))
        self.assertEqual(possible(fold, (None, 1)), ("ash", "elm", "oak"))
        self.assertEqual(sure(fold, (None, 1)), ("elm", "oak"))
        self.assertEqual(possible(fold, (0, 0)), ("oak",))
        self.assertEqual(sure(fold, (0, 0)), ("oak",))

    def test_nothing_possible_and_nothing_sure(self):
        self.assertEqual(possible((NONE,), (None,)), ())
        self.assertEqual(sure((NONE,), (None,)), ())
        fold = (OAK, ELM, (0, 0, 1))
        self.assertEqual(possible(fold, (None,)), ("elm", "oak"))
        self.assertEqual(sure(fold, (None,)), ())
        self.assertEqual(possible((OAK, NONE, (0, 0, 1)), (1,)), ())
        self.assertEqual(sure((NONE, OAK, (0, 0, 1)), (None,)), ())
        self.assertEqual(sure((OAK, NONE, (0, 0, 1)), (None,)), ())

    def test_names_stand_by_the_alphabet(self):
        fold = (("names", ("d", "e")), ("names", ("a", "e")), (1, 0, 1), ("names", ("b", "e")), (0, 2, 3))
        self.assertEqual(possible(fold, (None, None)), ("a", "b", "d", "e"))
        self.assertEqual(sure(fold, (None, None)), ("e",))

    def test_rows_alone(self):
        for leaf, sheet in itertools.product(EVERY_LEAF, each_sheet(3)):
            self.assertEqual(possible((leaf,), sheet), leaf[1])
            self.assertEqual(sure((leaf,), sheet), leaf[1])

    def test_every_small_fold_by_every_sheet(self):
        for many, leaves in ((1, EVERY_LEAF), (2, (NONE, OAK, BOTH)), (3, (ELM, BOTH))):
            for order in itertools.permutations(range(many)):
                for fold, sheet in itertools.product(each_fold(order, leaves), each_sheet(many)):
                    self.holds(fold, sheet)

    def test_greater_folds(self):
        for fold, sheet in folds_and_sheets():
            self.holds(fold, sheet)
        for many in (6, 10):
            for order in drawn_orders(2, many):
                for fold, sheet in itertools.product(drawn_folds(3, order), drawn_sheets(8, many)):
                    self.holds(fold, sheet)

    def test_all_known(self):
        for many in (1, 3, 6):
            for order in drawn_orders(2, many):
                for fold in drawn_folds(4, order):
                    for thing, names in names_by_thing(fold, many).items():
                        self.assertEqual(possible(fold, thing), names)
                        self.assertEqual(sure(fold, thing), names)

    def test_knowing_more_makes_nothing_possible_and_nothing_unsure(self):
        for fold, sheet in folds_and_sheets():
            for further in known_further(sheet):
                self.assertLessEqual(set(possible(fold, further)), set(possible(fold, sheet)))
                self.assertGreaterEqual(set(sure(fold, further)), set(sure(fold, sheet)))

    def test_what_is_sure_is_possible(self):
        for fold, sheet in folds_and_sheets():
            self.assertLessEqual(set(sure(fold, sheet)), set(possible(fold, sheet)))

    def test_possible_just_if_so_by_one_of_both_values(self):
        for fold, sheet in folds_and_sheets():
            further = list(known_further(sheet))
            for no, yes in zip(further[::2], further[1::2]):
                either = set(possible(fold, no)) | set(possible(fold, yes))
                self.assertEqual(set(possible(fold, sheet)), either)
                self.assertEqual(set(sure(fold, sheet)), set(sure(fold, no)) & set(sure(fold, yes)))

    def test_as_of_the_fold_cut_down_to_what_is_known(self):
        for many in (2, 4):
            for order in drawn_orders(2, many):
                for fold, sheet in itertools.product(drawn_folds(6, order), each_sheet(many)):
                    cut = known(fold, sheet, order)
                    self.assertEqual(possible(cut, (None,) * many), possible(fold, sheet))
                    self.assertEqual(sure(cut, (None,) * many), sure(fold, sheet))


if __name__ == "__main__":
    unittest.main()
