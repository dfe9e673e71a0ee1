"""[2.3], [2.4]: unfolded and asked."""

import itertools
import unittest

from keyfold.answers import answer, answer_of
from keyfold.folding import asked, folded, unfolded
from keyfold.things import is_key
from tests.samples import ELM, NONE, OAK, TREES, drawn_keys, drawn_orders, each_leaf_of, each_thing, fold_of


def small_folds():
    for many, leaves in ((1, (NONE, OAK, ELM)), (2, (NONE, OAK, ELM)), (3, (NONE, OAK))):
        for order in itertools.permutations(range(many)):
            for leaf_of in each_leaf_of(many, leaves):
                yield fold_of(leaf_of, order), order


def great_folds():
    for many, depth in ((5, 8), (10, 5), (10, 12)):
        for key, order in zip(drawn_keys(3, many, depth), drawn_orders(3, many)):
            yield folded(key, order), order


def ways_of_key(key):
    """Each way through a key: what is asked on it with what is answered, and the leaf."""
    if len(key) == 2:
        return [((), key)]
    return [(((key[1], value),) + way, leaf) for value in (0, 1) for way, leaf in ways_of_key(key[2 + value])]


def ways_of_fold(fold, number):
    row = fold[number]
    if len(row) == 2:
        return [((), row)]
    return [(((row[0], value),) + way, leaf) for value in (0, 1) for way, leaf in ways_of_fold(fold, row[1 + value])]


class Unfolded(unittest.TestCase):
    def holds(self, fold, order):
        key = unfolded(fold)
        self.assertIs(is_key(key, len(order)), True)
        for thing in each_thing(len(order)):
            self.assertEqual(answer(key, thing), answer_of(fold, thing))
        ways = ways_of_key(key)
        self.assertEqual(ways, ways_of_fold(fold, len(fold) - 1))
        for way, _ in ways:
            characters = [character for character, _ in way]
            self.assertEqual(len(characters), len(set(characters)))
        self.assertEqual(folded(key, order), fold)

    def test_a_row_alone(self):
        for leaf in (NONE, OAK, TREES):
            self.assertEqual(unfolded((leaf,)), leaf)

    def test_ordinary(self):
        self.assertEqual(unfolded((NONE, OAK, (0, 0, 1))), ("ask", 0, NONE, OAK))
        self.assertEqual(unfolded((OAK, NONE, (2, 0, 1))), ("ask", 2, OAK, NONE))
        fold = (OAK, NONE, (0, 0, 1), ELM, (0, 0, 3), (1, 2, 4))
        self.assertEqual(unfolded(fold), ("ask", 1, ("ask", 0, OAK, NONE), ("ask", 0, OAK, ELM)))

    def test_a_row_as_often_as_it_is_come_to(self):
        inner = ("ask", 2, NONE, OAK)
        fold = (NONE, OAK, (2, 0, 1), (1, 0, 2), (0, 2, 3))
        self.assertEqual(unfolded(fold), ("ask", 0, inner, ("ask", 1, NONE, inner)))

    def test_every_small_fold(self):
        for fold, order in small_folds():
            self.holds(fold, order)

    def test_greater_folds(self):
        for fold, order in great_folds():
            self.holds(fold, order)

    def test_a_fold_by_an_order_that_is_not_rising(self):
        order = (3, 1, 4, 0, 5, 9, 2, 6, 8, 7)
        rows, key = [NONE, OAK], OAK
        for number, character in enumerate(reversed(order)):
            rows.append((character, 0, number + 1))
            key = ("ask", character, NONE, key)
        self.assertEqual(unfolded(tuple(rows)), key)
        self.holds(tuple(rows), order)


class Asked(unittest.TestCase):
    def hangs_of(self, fold, many):
        """The characters for which two things that differ in them alone are answered unlike."""
        found = []
        for character in range(many):
            for thing in each_thing(many):
                other = thing[:character] + (1 - thing[character],) + thing[character + 1:]
                if answer_of(fold, thing) != answer_of(fold, other):
                    found.append(character)
                    break
        return tuple(found)

    def test_a_row_alone(self):
        for leaf in (NONE, OAK, TREES):
            self.assertEqual(asked((leaf,)), ())

    def test_ordinary(self):
        self.assertEqual(asked((NONE, OAK, (0, 0, 1))), (0,))
        self.assertEqual(asked((NONE, OAK, (9, 0, 1))), (9,))

    def test_rising_whatever_the_order(self):
        self.assertEqual(asked((NONE, OAK, (0, 0, 1), (3, 0, 2), (1, 0, 3))), (0, 1, 3))
        self.assertEqual(asked((NONE, OAK, (3, 0, 1), (1, 0, 2), (0, 0, 3))), (0, 1, 3))
        rows = [NONE, OAK]
        for number, character in enumerate((9, 2, 8, 0, 4, 3, 7, 1, 6, 5)):
            rows.append((character, 0, number + 1))
        self.assertEqual(asked(tuple(rows)), tuple(range(10)))

    def test_a_character_in_several_rows_is_told_once(self):
        self.assertEqual(asked((OAK, NONE, (0, 0, 1), ELM, (0, 0, 3), (1, 2, 4))), (0, 1))

    def test_just_those_of_which_it_hangs(self):
        for fold, order in itertools.chain(small_folds(), great_folds()):
            self.assertEqual(asked(fold), self.hangs_of(fold, len(order)))

    def test_a_key_that_asks_in_vain(self):
        inner = ("ask", 2, NONE, OAK)
        self.assertEqual(asked(folded(("ask", 0, inner, ("ask", 1, inner, inner)), (0, 1, 2))), (2,))
        self.assertEqual(asked(folded(("ask", 0, OAK, ("ask", 1, OAK, OAK)), (0, 1, 2))), ())


if __name__ == "__main__":
    unittest.main()
