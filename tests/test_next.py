"""[0.2] (e), [4.4]: next_of."""

import itertools
import unittest

from keyfold.asking import next_of
from tests.samples import (
    ELM, EVERY_LEAF, NONE, OAK, TREES, agreeing, drawn_folds, drawn_orders, drawn_sheets, each_fold, each_sheet,
    each_thing, fold_answering, names_for,
)


def names_left(fold, sheet, character, value):
    """How many names some thing is given that agrees with the sheet and has this value."""
    left = set()
    for thing in agreeing(sheet):
        if thing[character] == value:
            left.update(names_for(fold, thing))
    return len(left)


def best(fold, sheet):
    at_worst = {}
    for character in range(len(sheet)):
        if sheet[character] is None:
            at_worst[character] = max(names_left(fold, sheet, character, value) for value in (0, 1))
    for character in sorted(at_worst):
        if at_worst[character] == min(at_worst.values()):
            return character
    return None


class NextOf(unittest.TestCase):
    def holds(self, fold, sheet):
        self.assertEqual(next_of(fold, sheet), best(fold, sheet), (fold, sheet))

    def test_ordinary(self):
        fold = (OAK, ELM, (1, 0, 1), ("names", ("ash", "elm")), (1, 0, 3), (0, 2, 4))
        self.assertEqual(next_of(fold, (None, None)), 1)
        self.assertEqual(next_of(fold, (0, None)), 1)
        self.assertEqual(next_of(fold, (None, 1)), 0)

    def test_the_greater_of_both_numbers_counts(self):
        """Character 0 leaves 0 or 4, character 1 at most 3: fewer in all by the one, at worst by the other."""
        names = {(0, 0): (), (0, 1): (), (1, 0): ("a", "b"), (1, 1): ("b", "c", "d")}
        for order in ((0, 1), (1, 0)):
            self.assertEqual(next_of(fold_answering(names, order), (None, None)), 1)
        swapped = {(no, yes): names[(yes, no)] for no, yes in names}
        for order in ((0, 1), (1, 0)):
            self.assertEqual(next_of(fold_answering(swapped, order), (None, None)), 0)

    def test_names_count_and_not_things_or_answers(self):
        """Character 1 leaves three answers of one name each, character 0 one answer of four names."""
        names = {
            (0, 0, 0): tuple("abcd"), (0, 0, 1): tuple("abcd"), (0, 1, 0): tuple("abcd"), (0, 1, 1): tuple("abcd"),
            (1, 0, 0): tuple("a"), (1, 0, 1): tuple("b"), (1, 1, 0): tuple("c"), (1, 1, 1): tuple("e"),
        }
        for order in itertools.permutations(range(3)):
            fold = fold_answering(names, order)
            self.assertEqual(next_of(fold, (None,) * 3), 0)
            self.assertEqual(next_of(fold, (1, None, None)), 1)

    def test_the_least_of_several_that_are_alike(self):
        for leaf, many in itertools.product(EVERY_LEAF, range(1, 11)):
            self.assertEqual(next_of((leaf,), (None,) * many), 0)
            self.assertEqual(next_of((leaf,), (1,) * (many - 1) + (None,)), many - 1)
        self.assertEqual(next_of((OAK, ELM, (3, 0, 1)), (None,) * 5), 3)
        self.assertEqual(next_of((OAK, NONE, (3, 0, 1)), (None,) * 5), 0)
        self.assertEqual(next_of((OAK, NONE, (3, 0, 1)), (0, None, 1, None, None)), 1)

    def test_the_least_whatever_the_order(self):
        names = {(0, 0): ("a",), (0, 1): ("b",), (1, 0): ("c",), (1, 1): ("d",)}
        for order in ((0, 1), (1, 0)):
            self.assertEqual(next_of(fold_answering(names, order), (None, None)), 0)

    def test_a_character_that_is_not_asked_may_be_the_one(self):
        self.assertEqual(next_of((OAK, ELM, (0, 0, 1)), (0, None)), 1)
        self.assertEqual(next_of((OAK, TREES, (1, 0, 1)), (None, None)), 0)

    def test_none_where_nothing_is_unknown(self):
        for many in (1, 2, 4):
            for order in drawn_orders(2, many):
                for fold, thing in itertools.product(drawn_folds(5, order), each_thing(many)):
                    self.assertIsNone(next_of(fold, thing))
        self.assertIsNone(next_of((OAK,), (0,) * 10))

    def test_every_small_fold_by_every_sheet(self):
        for many, leaves in ((1, EVERY_LEAF), (2, (NONE, OAK, TREES)), (3, (NONE, TREES))):
            for order in itertools.permutations(range(many)):
                for fold, sheet in itertools.product(each_fold(order, leaves), each_sheet(many)):
                    self.holds(fold, sheet)

    def test_greater_folds(self):
        wide = [("names", tuple(names)) for names in ("ab", "c", "def", "g", "hij", "ah", "bdk", "")]
        for many, count in ((4, 6), (6, 4), (10, 2)):
            for order in drawn_orders(2, many):
                for fold in drawn_folds(count, order) + drawn_folds(count, order, wide):
                    for sheet in drawn_sheets(5, many):
                        self.holds(fold, sheet)


if __name__ == "__main__":
    unittest.main()
