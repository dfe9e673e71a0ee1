"""[3.5]: turned."""

import itertools
import unittest

from keyfold.cutting import turned
from keyfold.folding import folded, unfolded
from tests.checks import FoldCase
from tests.samples import (
    ELM, EVERY_LEAF, NONE, OAK, drawn_folds, drawn_keys, drawn_orders, each_fold, fold_of, leaves_of, names_by_thing,
)


class Turned(FoldCase):
    def holds(self, fold, order, new):
        made = turned(fold, new)
        self.answers_so(made, names_by_thing(fold, len(order)), new, (fold, order, new))
        self.assertEqual(turned(made, order), fold)
        return made

    def test_ordinary(self):
        fold = (OAK, NONE, ELM, (1, 1, 2), (0, 0, 3))
        self.assertEqual(self.holds(fold, (0, 1), (1, 0)), (OAK, NONE, (0, 0, 1), ELM, (0, 0, 3), (1, 2, 4)))
        self.assertEqual(self.holds(fold, (0, 1), (0, 1)), fold)

    def test_rows_alone(self):
        for leaf in EVERY_LEAF:
            for order in ((0,), (1, 0), drawn_orders(1, 10)[0]):
                self.assertEqual(turned((leaf,), order), (leaf,))

    def test_every_small_fold_by_every_order(self):
        for many, leaves in ((1, EVERY_LEAF), (2, (NONE, OAK, ELM)), (3, (NONE, OAK))):
            for order, new in itertools.product(itertools.permutations(range(many)), repeat=2):
                for fold in each_fold(order, leaves):
                    self.holds(fold, order, new)

    def test_greater_folds(self):
        for many, count in ((4, 9), (5, 6), (7, 4)):
            for order, new in itertools.permutations(drawn_orders(3, many), 2):
                for fold in drawn_folds(count, order):
                    self.holds(fold, order, new)

    def test_ten_characters(self):
        rising = tuple(range(10))
        for order, new in ((rising, rising[::-1]), tuple(drawn_orders(2, 10))):
            for fold in drawn_folds(3, order):
                self.holds(fold, order, new)

    def test_the_same_as_the_key_folded_by_that_order(self):
        for many, depth, count in ((2, 4, 20), (4, 6, 10), (10, 5, 3), (10, 12, 1)):
            for key in drawn_keys(count, many, depth):
                for order, new in itertools.permutations(drawn_orders(2, many), 2):
                    self.assertEqual(turned(folded(key, order), new), folded(key, new))

    def test_the_same_as_what_it_unfolds_to_folded_by_that_order(self):
        for order, new in itertools.permutations(drawn_orders(3, 5), 2):
            for fold in drawn_folds(6, order):
                self.assertEqual(turned(fold, new), folded(unfolded(fold), new))

    def test_by_its_own_order_it_stays(self):
        for many in (1, 2, 4, 10):
            for order in drawn_orders(3, many):
                for fold in drawn_folds(6, order):
                    self.assertEqual(turned(fold, order), fold)

    def test_over_a_third_order(self):
        for one, other, third in itertools.permutations(drawn_orders(4, 4), 3):
            for fold in drawn_folds(5, one):
                self.assertEqual(turned(turned(fold, other), third), turned(fold, third))

    def test_more_rows_and_fewer(self):
        """Three pairs that go together: side by side they need few rows, apart many."""
        key = OAK
        for character in (0, 1, 2):
            key = ("ask", character, key, ("ask", character + 3, key, NONE))
        beside, apart = (0, 3, 1, 4, 2, 5), (0, 1, 2, 3, 4, 5)
        few, many = fold_of(leaves_of(key, 6), beside), fold_of(leaves_of(key, 6), apart)
        self.assertLess(len(few), len(many))
        self.assertEqual(turned(few, apart), many)
        self.assertEqual(turned(many, beside), few)


if __name__ == "__main__":
    unittest.main()
