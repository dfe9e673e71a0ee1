"""[0.2] (b): of folds made in all ways, two by one order are the same just if they answer alike for every thing."""

import itertools
import unittest

from keyfold.cutting import always, forgotten, known, only, told, turned
from keyfold.folding import folded, unfolded
from keyfold.pairs import common, joined, less
from keyfold.things import is_fold
from tests.samples import (
    NONE, OAK, drawn_folds, drawn_orders, drawn_sheets, each_key, names_by_thing, ways_to_go_on,
)


def made_of(fold, other, order, sheets):
    """What each way to make a fold makes of these two."""
    yield folded(unfolded(fold), order)
    for call in (joined, common, less):
        yield call(fold, other, order)
        yield call(other, fold, order)
    for sheet in sheets:
        yield known(fold, sheet, order)
    for character in order:
        yield forgotten(fold, character, order)
        yield always(fold, character, order)
    for names in ((), ("oak",), ("ash", "elm"), ("elm", "yew")):
        yield only(fold, names, order)
    for name in ("ash", "oak", "yew"):
        yield told(fold, name, order)
    yield turned(turned(fold, order[::-1]), order)


class Alike(unittest.TestCase):
    def told_apart(self, folds, order):
        """How many unlike ways to answer there are; each has one fold, and each fold one way."""
        by_way, by_fold = {}, {}
        for fold in folds:
            self.assertIs(is_fold(fold, order), True, (fold, order))
            way = tuple(names_by_thing(fold, len(order)).values())
            self.assertEqual(by_way.setdefault(way, fold), fold)
            self.assertEqual(by_fold.setdefault(fold, way), way)
        return len(by_way)

    def every_way(self, order, count):
        folds = drawn_folds(count, order)
        sheets = drawn_sheets(3, len(order))
        for one, other in itertools.product(folds, repeat=2):
            yield from made_of(one, other, order, sheets)

    def test_made_once(self):
        for many, count in ((1, 12), (2, 10), (3, 8), (4, 7)):
            for order in drawn_orders(2, many):
                made = list(self.every_way(order, count))
                self.assertLess(self.told_apart(made, order), len(made))

    def test_made_again_of_what_was_made(self):
        for order in ((1, 0), (2, 0, 1)):
            made = sorted(set(self.every_way(order, 5)), key=repr)
            again = list(made)
            for one, other in zip(made, made[7:]):
                again.extend(made_of(one, other, order, drawn_sheets(2, len(order))))
            self.assertLess(self.told_apart(again, order), len(again))

    def test_every_way_to_answer_of_two_characters(self):
        for order in ((0, 1), (1, 0)):
            folds = sorted({folded(key, order) for key in each_key(2, (NONE, OAK), 2)}, key=repr)
            made = list(folds)
            for one, other in itertools.product(folds, repeat=2):
                made.extend(made_of(one, other, order, [(None, 0), (1, None)]))
            self.assertEqual(self.told_apart(made, order), 16)
            self.assertEqual(set(made), set(folds))

    def test_no_fold_that_answers_so_has_fewer_rows(self):
        for order in ((0,), (1, 0), (2, 0, 1)):
            for fold in sorted(set(self.every_way(order, 6)), key=repr):
                leaf_of = {thing: ("names", names) for thing, names in names_by_thing(fold, len(order)).items()}
                self.assertEqual(len(fold), ways_to_go_on(leaf_of, order))


if __name__ == "__main__":
    unittest.main()
