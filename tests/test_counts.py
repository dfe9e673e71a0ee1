"""[0.2] (d), [4.2]: counts and count_name."""

import itertools
import unittest

from keyfold.asking import count_name, counts
from tests.samples import (
    ELM, EVERY_LEAF, NONE, OAK, TREES, agreeing, drawn_folds, drawn_orders, drawn_sheets, each_fold, each_sheet,
    each_thing, fold_answering, names_by_thing, names_for,
)

NAMES = ("ash", "elm", "oak", "yew")


class Counts(unittest.TestCase):
    def holds(self, fold, many):
        told = counts(fold, many)
        tally = {}
        for names in names_by_thing(fold, many).values():
            tally[names] = tally.get(names, 0) + 1
        self.assertIsInstance(told, tuple)
        self.assertEqual(told, tuple((names, tally[names]) for names in sorted(tally)), (fold, many))
        self.assertEqual(sum(number for _, number in told), 2 ** many)
        for pair in told:
            self.assertIs(type(pair), tuple)
            self.assertIs(type(pair[1]), int)

    def test_ordinary(self):
        fold = (OAK, NONE, ELM, (1, 1, 2), (0, 0, 3))
        self.assertEqual(counts(fold, 2), (((), 1), (("elm",), 1), (("oak",), 2)))
        self.assertEqual(counts(fold, 3), (((), 2), (("elm",), 2), (("oak",), 4)))

    def test_pairs_stand_by_their_names_as_tuples(self):
        names = [("oak",), ("ash", "oak"), (), ("ash",), ("elm",), ("ash", "elm"), ("ab", "zz"), ("a", "zz")]
        told = [(), ("a", "zz"), ("ab", "zz"), ("ash",), ("ash", "elm"), ("ash", "oak"), ("elm",), ("oak",)]
        for order in itertools.permutations(range(3)):
            fold = fold_answering(dict(zip(each_thing(3), names)), order)
            self.assertEqual(counts(fold, 3), tuple((some, 1) for some in told))

    def test_rows_alone_of_1_up_to_10_characters(self):
        for leaf, many in itertools.product(EVERY_LEAF, range(1, 11)):
            self.assertEqual(counts((leaf,), many), ((leaf[1], 2 ** many),))

    def test_characters_that_are_not_asked_double_each_number(self):
        for character, many in itertools.product(range(3), range(3, 11)):
            half = 2 ** (many - 1)
            self.assertEqual(counts((OAK, NONE, (character, 0, 1)), many), (((), half), (("oak",), half)))

    def test_a_row_that_is_come_to_several_times(self):
        self.assertEqual(counts((NONE, OAK, (2, 0, 1), (1, 0, 2), (0, 2, 3)), 3), (((), 5), (("oak",), 3)))

    def test_one_thing_alone(self):
        rows = [NONE, OAK]
        for number, character in enumerate((7, 1, 4, 0, 5, 9, 2, 6, 8, 3)):
            rows.append((character, 0, number + 1))
        self.assertEqual(counts(tuple(rows), 10), (((), 1023), (("oak",), 1)))

    def test_every_small_fold(self):
        for many, leaves in ((1, EVERY_LEAF), (2, EVERY_LEAF[:4]), (3, (NONE, OAK))):
            for order in itertools.permutations(range(many)):
                for fold in each_fold(order, leaves):
                    self.holds(fold, many)

    def test_1_up_to_10_characters(self):
        for many in range(1, 11):
            for order in drawn_orders(2, many):
                for fold in drawn_folds(6, order):
                    self.holds(fold, many)


class CountName(unittest.TestCase):
    def holds(self, fold, sheet):
        answers = [names_for(fold, thing) for thing in agreeing(sheet)]
        for name in NAMES:
            told = count_name(fold, name, sheet)
            self.assertIs(type(told), int)
            self.assertEqual(told, len([names for names in answers if name in names]), (fold, name, sheet))

    def test_ordinary(self):
        fold = (OAK, NONE, ELM, (1, 1, 2), (0, 0, 3))
        self.assertEqual(count_name(fold, "oak", (None, None)), 2)
        self.assertEqual(count_name(fold, "elm", (None, None)), 1)
        self.assertEqual(count_name(fold, "oak", (None, 1)), 1)
        self.assertEqual(count_name(fold, "oak", (1, None)), 0)
        self.assertEqual(count_name(fold, "oak", (0, 0)), 1)
        self.assertEqual(count_name(fold, "oak", (0, None, None, 1)), 4)

    def test_a_name_that_never_stands(self):
        for order in drawn_orders(2, 4):
            for fold, sheet in itertools.product(drawn_folds(4, order), drawn_sheets(6, 4)):
                self.assertEqual(count_name(fold, "yew", sheet), 0)
                self.assertEqual(count_name(fold, "oa", sheet), 0)

    def test_a_name_at_several_leaves(self):
        fold = (OAK, TREES, ELM, (1, 1, 2), (0, 0, 3))
        self.assertEqual(count_name(fold, "oak", (None, None)), 3)
        self.assertEqual(count_name(fold, "elm", (None, None)), 2)
        self.assertEqual(count_name(fold, "elm", (1, None)), 2)

    def test_rows_alone(self):
        for many in range(1, 11):
            for unknown in range(many + 1):
                sheet = (0,) * (many - unknown) + (None,) * unknown
                self.assertEqual(count_name((TREES,), "elm", sheet), 2 ** unknown)
                self.assertEqual(count_name((NONE,), "elm", sheet), 0)

    def test_every_small_fold_by_every_sheet(self):
        for many, leaves in ((1, EVERY_LEAF), (2, (NONE, OAK, TREES)), (3, (ELM, TREES))):
            for order in itertools.permutations(range(many)):
                for fold, sheet in itertools.product(each_fold(order, leaves), each_sheet(many)):
                    self.holds(fold, sheet)

    def test_greater_folds(self):
        for many in (4, 6, 10):
            for order in drawn_orders(2, many):
                for fold, sheet in itertools.product(drawn_folds(4, order), drawn_sheets(8, many)):
                    self.holds(fold, sheet)

    def test_as_counts_tell_where_nothing_is_known(self):
        for many in range(1, 11):
            for order in drawn_orders(1, many):
                for fold, name in itertools.product(drawn_folds(4, order), NAMES):
                    told = sum(number for names, number in counts(fold, many) if name in names)
                    self.assertEqual(count_name(fold, name, (None,) * many), told)


if __name__ == "__main__":
    unittest.main()
