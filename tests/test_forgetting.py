"""[3.3]: forgotten and always."""

import itertools
import unittest

from keyfold.cutting import always, forgotten
from keyfold.folding import asked
from keyfold.pairs import common, joined
from tests.checks import FoldCase
from tests.samples import (
    ELM, EVERY_LEAF, NONE, OAK, TREES, drawn_folds, drawn_orders, each_fold, flipped, names_by_thing,
)

BOTH = ("names", ("elm", "oak"))


class EachThing(FoldCase):
    def holds(self, fold, character, order):
        names = names_by_thing(fold, len(order))
        beside = {thing: names[flipped(thing, character)] for thing in names}
        either = {thing: {*names[thing], *beside[thing]} for thing in names}
        each = {thing: {name for name in names[thing] if name in beside[thing]} for thing in names}
        hint = (fold, character, order)
        self.answers_so(forgotten(fold, character, order), either, order, hint)
        self.answers_so(always(fold, character, order), each, order, hint)

    def test_ordinary(self):
        fold = (OAK, BOTH, (1, 0, 1), ELM, (0, 2, 3))
        self.assertEqual(forgotten(fold, 0, (0, 1)), (BOTH,))
        self.assertEqual(always(fold, 0, (0, 1)), (NONE, ELM, (1, 0, 1)))
        self.assertEqual(forgotten(fold, 1, (0, 1)), (BOTH, ELM, (0, 0, 1)))
        self.assertEqual(always(fold, 1, (0, 1)), (OAK, ELM, (0, 0, 1)))

    def test_one_character(self):
        self.assertEqual(forgotten((OAK, ELM, (0, 0, 1)), 0, (0,)), (BOTH,))
        self.assertEqual(always((OAK, ELM, (0, 0, 1)), 0, (0,)), (NONE,))
        self.assertEqual(forgotten((OAK, TREES, (0, 0, 1)), 0, (0,)), (TREES,))
        self.assertEqual(always((OAK, TREES, (0, 0, 1)), 0, (0,)), (OAK,))

    def test_rows_alone(self):
        for leaf in EVERY_LEAF:
            for character in range(10):
                for call in (forgotten, always):
                    self.assertEqual(call((leaf,), character, tuple(range(10))), (leaf,))

    def test_a_character_that_is_not_asked(self):
        for order in drawn_orders(4, 4) + drawn_orders(1, 10):
            for fold in drawn_folds(9, order):
                for character in order:
                    if character not in asked(fold):
                        self.assertEqual(forgotten(fold, character, order), fold)
                        self.assertEqual(always(fold, character, order), fold)

    def test_every_small_fold(self):
        for fold in each_fold((0,), EVERY_LEAF):
            self.holds(fold, 0, (0,))
        for order in ((0, 1), (1, 0)):
            for fold in each_fold(order, (NONE, OAK, BOTH)):
                for character in order:
                    self.holds(fold, character, order)

    def test_greater_folds(self):
        for many, count in ((3, 9), (5, 6), (10, 2)):
            for order in drawn_orders(2, many):
                for fold in drawn_folds(count, order):
                    for character in order:
                        self.holds(fold, character, order)


class Laws(FoldCase):
    def folds(self):
        for order in ((0,), (1, 0), (2, 0, 1), (3, 1, 0, 2)):
            yield drawn_folds(8, order), order

    def test_what_is_forgotten_is_asked_no_more(self):
        for folds, order in self.folds():
            for fold, character in itertools.product(folds, order):
                self.assertNotIn(character, asked(forgotten(fold, character, order)))
                self.assertNotIn(character, asked(always(fold, character, order)))

    def test_forgotten_through_joined_and_always_through_common(self):
        for folds, order in self.folds():
            for one, other, character in itertools.product(folds, folds, order):
                for call, pair in ((forgotten, joined), (always, common)):
                    self.assertEqual(
                        call(pair(one, other, order), character, order),
                        pair(call(one, character, order), call(other, character, order), order),
                    )

    def test_in_any_order(self):
        for folds, order in self.folds():
            for fold in folds:
                for call in (forgotten, always):
                    ends = set()
                    for characters in itertools.permutations(order):
                        made = fold
                        for character in characters:
                            made = call(made, character, order)
                        ends.add(made)
                    self.assertEqual(len(ends), 1)
                    for one, other in itertools.permutations(order, 2):
                        first = call(call(fold, one, order), other, order)
                        self.assertEqual(first, call(call(fold, other, order), one, order))

    def test_all_forgotten(self):
        for folds, order in self.folds():
            for fold in folds:
                either, each = fold, fold
                for character in order:
                    either, each = forgotten(either, character, order), always(each, character, order)
                names = [set(some) for some in names_by_thing(fold, len(order)).values()]
                self.assertEqual(either, (("names", tuple(sorted(set.union(*names)))),))
                self.assertEqual(each, (("names", tuple(sorted(set.intersection(*names)))),))

    def test_always_is_below_and_forgotten_above(self):
        for folds, order in self.folds():
            for fold, character in itertools.product(folds, order):
                above, below = forgotten(fold, character, order), always(fold, character, order)
                self.assertEqual(joined(fold, above, order), above)
                self.assertEqual(common(fold, below, order), below)


if __name__ == "__main__":
    unittest.main()
