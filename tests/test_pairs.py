"""[3.1]: joined, common and less."""

import itertools
import unittest

from keyfold.pairs import common, joined, less
from tests.checks import FoldCase
from tests.samples import (
    ELM, EVERY_LEAF, NONE, OAK, TREES, drawn_folds, drawn_orders, each_fold, each_thing, fold_answering,
    names_by_thing,
)

BOTH = ("names", ("elm", "oak"))


def of_both(names, others):
    return {*names, *others}


def in_both(names, others):
    return {name for name in names if name in others}


def of_one_alone(names, others):
    return {name for name in names if name not in others}


TOLD = ((joined, of_both), (common, in_both), (less, of_one_alone))


class EachThing(FoldCase):
    def holds(self, one, other, order):
        ones, others = names_by_thing(one, len(order)), names_by_thing(other, len(order))
        for call, names_of in TOLD:
            names = {thing: names_of(ones[thing], others[thing]) for thing in ones}
            self.answers_so(call(one, other, order), names, order, (call.__name__, one, other, order))

    def test_ordinary(self):
        one, other = (NONE, OAK, (0, 0, 1)), (ELM, BOTH, (1, 0, 1))
        self.assertEqual(joined(one, other, (0, 1)), (ELM, BOTH, (1, 0, 1), (0, 2, 1)))
        self.assertEqual(joined(one, other, (1, 0)), (ELM, BOTH, (0, 0, 1), (1, 2, 1)))
        self.assertEqual(common(one, other, (0, 1)), (NONE, OAK, (1, 0, 1), (0, 0, 2)))
        self.assertEqual(less(one, other, (0, 1)), (NONE, OAK, (1, 1, 0), (0, 0, 2)))
        self.assertEqual(less(other, one, (0, 1)), (ELM, BOTH, (1, 0, 1), (0, 2, 0)))

    def test_names_stand_by_the_alphabet(self):
        self.assertEqual(joined((OAK,), (("names", ("ash", "yew")),), (0,)), (("names", ("ash", "oak", "yew")),))
        self.assertEqual(joined((("names", ("b", "d")),), (("names", ("a", "c", "d")),), (0,))[0][1], tuple("abcd"))
        self.assertEqual(joined((("names", ("ab",)),), (("names", ("a", "abc")),), (0,))[0][1], ("a", "ab", "abc"))

    def test_a_character_that_no_longer_matters_is_not_asked(self):
        one, other = (OAK, NONE, (0, 0, 1)), (NONE, OAK, (0, 0, 1))
        self.assertEqual(joined(one, other, (0, 1)), (OAK,))
        self.assertEqual(common(one, other, (0, 1)), (NONE,))
        self.assertEqual(less(one, one, (0, 1)), (NONE,))
        self.assertEqual(less(one, other, (0, 1)), one)

    def test_rows_alone(self):
        for one, other in itertools.product(EVERY_LEAF, repeat=2):
            for order in ((0,), (1, 0), tuple(range(9, -1, -1))):
                for call, names_of in TOLD:
                    names = tuple(sorted(names_of(one[1], other[1])))
                    self.assertEqual(call((one,), (other,), order), (("names", names),))

    def test_no_names_and_all_beside_any_fold(self):
        for order in ((0,), (1, 0), (2, 0, 1), (3, 1, 0, 2)):
            for fold in drawn_folds(20, order):
                self.assertEqual(joined(fold, (NONE,), order), fold)
                self.assertEqual(joined((NONE,), fold, order), fold)
                self.assertEqual(joined(fold, (TREES,), order), (TREES,))
                self.assertEqual(common(fold, (NONE,), order), (NONE,))
                self.assertEqual(common(fold, (TREES,), order), fold)
                self.assertEqual(common((TREES,), fold, order), fold)
                self.assertEqual(less(fold, (NONE,), order), fold)
                self.assertEqual(less(fold, (TREES,), order), (NONE,))
                self.assertEqual(less((NONE,), fold, order), (NONE,))
                self.holds((TREES,), fold, order)

    def test_every_two_of_one_character(self):
        for one in each_fold((0,), EVERY_LEAF):
            for other in each_fold((0,), (NONE, ELM, BOTH, TREES)):
                self.holds(one, other, (0,))
                self.holds(other, one, (0,))

    def test_every_two_of_two_characters(self):
        for order, leaves in (((0, 1), (ELM, OAK)), ((1, 0), (NONE, BOTH))):
            for one, other in itertools.product(each_fold(order, leaves), repeat=2):
                self.holds(one, other, order)

    def test_greater_ones(self):
        for many, count in ((3, 10), (4, 7), (6, 4)):
            for order in drawn_orders(2, many):
                for one, other in itertools.product(drawn_folds(count, order), repeat=2):
                    self.holds(one, other, order)

    def test_ten_characters(self):
        for order in (tuple(range(10)), drawn_orders(1, 10)[0]):
            for one, other in itertools.product(drawn_folds(3, order), repeat=2):
                self.holds(one, other, order)

    def test_as_many_names_as_things(self):
        letters = "abcdefghijklmnop"
        for order in drawn_orders(3, 4):
            one = fold_answering(dict(zip(each_thing(4), letters)), order)
            self.assertEqual(len(one), 31)
            self.holds(one, fold_answering(dict(zip(each_thing(4), reversed(letters))), order), order)
            self.holds(one, (("names", tuple(letters)),), order)
            self.holds((("names", tuple(letters)),), one, order)


class Laws(FoldCase):
    def triples(self):
        for order in ((0,), (0, 1), (1, 0), (2, 0, 1), (3, 0, 2, 1)):
            folds = drawn_folds(6, order)
            for one, other, third in itertools.product(folds, repeat=3):
                yield one, other, third, order

    def test_turned_about(self):
        for one, other, _, order in self.triples():
            self.assertEqual(joined(one, other, order), joined(other, one, order))
            self.assertEqual(common(one, other, order), common(other, one, order))

    def test_put_together_in_any_way(self):
        for one, other, third, order in self.triples():
            for call in (joined, common):
                self.assertEqual(
                    call(call(one, other, order), third, order), call(one, call(other, third, order), order)
                )

    def test_laid_over_one_another(self):
        for one, other, third, order in self.triples():
            self.assertEqual(joined(one, common(one, other, order), order), one)
            self.assertEqual(common(one, joined(one, other, order), order), one)
            self.assertEqual(
                common(one, joined(other, third, order), order),
                joined(common(one, other, order), common(one, third, order), order),
            )
            self.assertEqual(
                joined(one, common(other, third, order), order),
                common(joined(one, other, order), joined(one, third, order), order),
            )

    def test_with_themselves_they_are_themselves(self):
        for one, _, _, order in self.triples():
            self.assertEqual(joined(one, one, order), one)
            self.assertEqual(common(one, one, order), one)
            self.assertEqual(less(one, one, order), (NONE,))

    def test_what_is_taken_away_and_what_is_common_join_to_the_first(self):
        for one, other, _, order in self.triples():
            apart, together = less(one, other, order), common(one, other, order)
            self.assertEqual(joined(apart, together, order), one)
            self.assertEqual(common(apart, together, order), (NONE,))
            self.assertEqual(less(one, together, order), apart)
            self.assertEqual(less(one, apart, order), together)

    def test_less_twice_is_less_the_join(self):
        for one, other, third, order in self.triples():
            self.assertEqual(
                less(less(one, other, order), third, order), less(one, joined(other, third, order), order)
            )


if __name__ == "__main__":
    unittest.main()
