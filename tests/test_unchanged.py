"""[0.3]: what is handed in is as it was, the same is told again, and all that is told is tuples."""

import copy
import unittest

from keyfold.answers import answer, answer_of
from keyfold.asking import count_name, counts, next_of, possible, sure, witness
from keyfold.cutting import always, forgotten, known, only, told, turned
from keyfold.errors import NoText
from keyfold.folding import asked, folded, unfolded
from keyfold.pairs import common, joined, less
from keyfold.reading import read
from keyfold.twins import parting, twins
from keyfold.writing import written
from tests.samples import NONE, OAK, drawn_folds, drawn_keys, drawn_orders, drawn_sheets, each_thing


def made_of_tuples(thing):
    if isinstance(thing, tuple):
        return all(made_of_tuples(part) for part in thing)
    return thing is None or type(thing) in (int, str)


class Unchanged(unittest.TestCase):
    def same_again(self, call, *handed):
        """What one call tells, after a look at the arguments, a second call and one with copies."""
        before = copy.deepcopy(handed)
        first = call(*handed)
        kept = copy.deepcopy(first)
        self.assertEqual(repr(handed), repr(before))
        self.assertEqual(repr(call(*handed)), repr(kept))
        self.assertEqual(repr(call(*before)), repr(kept))
        self.assertEqual(repr(first), repr(kept))
        self.assertTrue(made_of_tuples(first), first)
        return first

    def test_reading_answering_and_folding(self):
        for many, depth in ((1, 3), (2, 4), (4, 6), (10, 4)):
            for key, order in zip(drawn_keys(8, many, depth), drawn_orders(8, many)):
                self.same_again(read, written(key, many), many)
                fold = self.same_again(folded, key, order)
                self.same_again(unfolded, fold)
                self.same_again(asked, fold)
                for thing in each_thing(many)[:20]:
                    self.same_again(answer, key, thing)
                    self.same_again(answer_of, fold, thing)

    def test_putting_together_and_cutting(self):
        for many in (1, 2, 4, 10):
            order, new = drawn_orders(2, many)
            folds = drawn_folds(4, order)
            for one, other, sheet in zip(folds, folds[1:] + folds[:1], drawn_sheets(2, many)):
                for call in (joined, common, less):
                    self.same_again(call, one, other, order)
                    self.same_again(call, one, one, order)
                self.same_again(known, one, sheet, order)
                self.same_again(forgotten, one, many - 1, order)
                self.same_again(always, one, 0, order)
                self.same_again(only, one, ("elm", "oak"), order)
                self.same_again(told, one, "oak", order)
                self.same_again(turned, one, new)

    def test_asking(self):
        for many in (1, 2, 4, 10):
            for order in drawn_orders(2, many):
                for fold, sheet in zip(drawn_folds(5, order), drawn_sheets(3, many)):
                    for call in (possible, sure, next_of):
                        self.same_again(call, fold, sheet)
                    for name in ("oak", "yew"):
                        self.same_again(count_name, fold, name, sheet)
                        self.same_again(witness, fold, name, sheet)
                    self.same_again(counts, fold, many)
                    self.same_again(twins, fold)
                    self.same_again(parting, fold, "elm", "oak", many)

    def test_pairs_one_after_another(self):
        order = (2, 0, 3, 1)
        folds = drawn_folds(6, order)
        pairs = [(one, other) for one in folds for other in folds]
        alone = [(joined(one, other, order), less(one, other, order)) for one, other in pairs]
        again = [(joined(one, other, order), less(one, other, order)) for one, other in reversed(pairs)]
        self.assertEqual(again[::-1], alone)

    def test_one_call_does_not_hang_of_those_ahead(self):
        keys = drawn_keys(10, 3, 5)
        alone = [folded(key, (2, 0, 1)) for key in keys]
        for key in reversed(keys):
            folded(key, (0, 1, 2))
        self.assertEqual([folded(key, (2, 0, 1)) for key in reversed(keys)], alone[::-1])

    def test_refused_twice_and_read_between(self):
        for _ in range(2):
            with self.assertRaises(NoText):
                read("ask 0 names end names oak", 1)
            self.assertEqual(read("ask 0 names end names oak end", 1), ("ask", 0, NONE, OAK))

    def test_a_text_of_another_number_of_characters(self):
        for _ in range(2):
            self.assertEqual(read("ask 2 names end names oak end", 3), ("ask", 2, NONE, OAK))
            with self.assertRaises(NoText):
                read("ask 2 names end names oak end", 2)


if __name__ == "__main__":
    unittest.main()
