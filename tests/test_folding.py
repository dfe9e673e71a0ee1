"""[0.2], [0.6], [2.2]: folded."""

import itertools
import unittest

from keyfold.answers import answer, answer_of
from keyfold.folding import folded
from keyfold.things import is_fold, is_key
from tests.samples import (
    ELM, NONE, OAK, TREES, drawn_keys, drawn_orders, each_key, each_thing, fold_of, leaves_of, ways_to_go_on,
)


class Folded(unittest.TestCase):
    def holds(self, key, order):
        """The promises that can be looked at for one key alone; its fold."""
        fold = folded(key, order)
        self.assertIs(is_fold(fold, order), True, (key, order, fold))
        for thing in each_thing(len(order)):
            self.assertEqual(answer_of(fold, thing), answer(key, thing), (key, order, thing))
        return fold

    def test_leaves(self):
        for leaf in (NONE, OAK, TREES):
            for order in ((0,), (1, 0), (2, 0, 1), tuple(range(10))):
                self.assertEqual(self.holds(leaf, order), (leaf,))

    def test_one_ask(self):
        self.assertEqual(self.holds(("ask", 0, NONE, OAK), (0,)), (NONE, OAK, (0, 0, 1)))
        self.assertEqual(self.holds(("ask", 0, OAK, NONE), (0,)), (OAK, NONE, (0, 0, 1)))
        self.assertEqual(self.holds(("ask", 1, NONE, OAK), (2, 1, 0)), (NONE, OAK, (1, 0, 1)))

    def test_one_key_by_both_orders(self):
        key = ("ask", 0, OAK, ("ask", 1, NONE, ELM))
        self.assertEqual(self.holds(key, (0, 1)), (OAK, NONE, ELM, (1, 1, 2), (0, 0, 3)))
        self.assertEqual(self.holds(key, (1, 0)), (OAK, NONE, (0, 0, 1), ELM, (0, 0, 3), (1, 2, 4)))

    def test_a_row_is_left_once_though_it_is_come_to_twice(self):
        key = ("ask", 0, ("ask", 2, NONE, OAK), ("ask", 1, NONE, ("ask", 2, NONE, OAK)))
        self.assertEqual(self.holds(key, (0, 1, 2)), (NONE, OAK, (2, 0, 1), (1, 0, 2), (0, 2, 3)))

    def test_a_key_of_one_character(self):
        for key in each_key(1, (NONE, OAK, ELM), 2):
            fold = self.holds(key, (0,))
            self.assertEqual(fold, fold_of(leaves_of(key, 1), (0,)))

    def test_each_small_key_by_each_order(self):
        for many, leaves, depth in ((2, (NONE, OAK, ELM), 2), (3, (NONE, OAK), 2)):
            for key in each_key(many, leaves, depth):
                leaf_of = leaves_of(key, many)
                for order in itertools.permutations(range(many)):
                    self.assertEqual(self.holds(key, order), fold_of(leaf_of, order), (key, order))

    def test_deeper_keys_by_each_order(self):
        for key in drawn_keys(60, 3, 6):
            for order in itertools.permutations(range(3)):
                self.assertEqual(self.holds(key, order), fold_of(leaves_of(key, 3), order), (key, order))
        for key in drawn_keys(15, 5, 8):
            for order in drawn_orders(4, 5):
                self.assertEqual(self.holds(key, order), fold_of(leaves_of(key, 5), order), (key, order))

    def test_ten_characters_twelve_deep(self):
        keys = drawn_keys(3, 10, 12)
        for key, order in zip(keys, drawn_orders(3, 10)):
            self.assertTrue(is_key(key, 10))
            self.holds(key, order)
            self.holds(key, tuple(range(10)))

    def test_ten_characters_few_asked(self):
        key = ("ask", 9, ("ask", 4, NONE, OAK), ("ask", 0, OAK, ("ask", 4, ELM, NONE)))
        for order in drawn_orders(20, 10):
            self.assertEqual(self.holds(key, order), fold_of(leaves_of(key, 10), order))

    def test_as_many_leaves_as_things(self):
        letters = "abcdefghijklmnopqrstuvwxyzbcdefg"
        leaves = [("names", (letters[number] + letters[number // 26],)) for number in range(32)]
        key = self.full_key(leaves, 4)
        for order in drawn_orders(5, 5):
            self.assertEqual(len(self.holds(key, order)), 63)

    def full_key(self, leaves, character):
        if len(leaves) == 1:
            return leaves[0]
        half = len(leaves) // 2
        parts = [self.full_key(part, character - 1) for part in (leaves[:half], leaves[half:])]
        return ("ask", character, parts[0], parts[1])

    def test_a_little_beyond_the_bounds(self):
        key = OAK
        for step in range(24):
            key = ("ask", step % 12, key, ELM if step % 3 else NONE)
        for order in drawn_orders(2, 12):
            self.holds(key, order)


class Vain(unittest.TestCase):
    def test_a_character_asked_in_vain_stands_in_no_row(self):
        inner = ("ask", 1, NONE, OAK)
        keys = [
            ("ask", 0, inner, inner),
            ("ask", 0, inner, ("ask", 2, inner, inner)),
            ("ask", 1, ("ask", 0, NONE, NONE), ("ask", 2, OAK, OAK)),
            ("ask", 1, NONE, ("ask", 1, ("ask", 0, OAK, ELM), OAK)),
        ]
        for key in keys:
            for order in itertools.permutations(range(3)):
                self.assertEqual(folded(key, order), (NONE, OAK, (1, 0, 1)))

    def test_a_character_that_was_asked_above(self):
        key = ("ask", 0, ("ask", 0, OAK, ELM), ("ask", 0, ELM, NONE))
        self.assertEqual(folded(key, (0,)), (OAK, NONE, (0, 0, 1)))
        key = ("ask", 0, ("ask", 1, ("ask", 0, OAK, ELM), NONE), ("ask", 1, ("ask", 0, ELM, OAK), NONE))
        for order in ((0, 1), (1, 0)):
            self.assertEqual(folded(key, order), (OAK, NONE, (1, 0, 1)))

    def test_leaves_all_alike(self):
        for leaf in (NONE, OAK, TREES):
            for key in each_key(2, (leaf,), 3) + drawn_keys(5, 2, 12, (leaf,)):
                self.assertEqual(folded(key, (1, 0)), (leaf,))
            for key in drawn_keys(3, 10, 12, (leaf,)):
                self.assertEqual(folded(key, drawn_orders(1, 10)[0]), (leaf,))


class JustOne(unittest.TestCase):
    def told_apart(self, keys, order):
        """Keys that answer alike have one fold, and those that don't have unlike ones."""
        folds, ways = {}, {}
        for key in keys:
            fold = folded(key, order)
            way = tuple(answer(key, thing) for thing in each_thing(len(order)))
            self.assertEqual(folds.setdefault(way, fold), fold)
            self.assertEqual(ways.setdefault(fold, way), way)
        return len(folds)

    def test_the_same_just_if_they_answer_alike(self):
        for order in ((0, 1), (1, 0)):
            self.assertEqual(self.told_apart(each_key(2, (NONE, OAK), 2), order), 16)
            self.assertEqual(self.told_apart(each_key(2, (NONE, OAK, ELM), 2), order), 81)
        for order in itertools.permutations(range(3)):
            self.told_apart(each_key(3, (NONE, OAK), 2), order)

    def test_two_that_differ_for_one_thing_alone(self):
        key, same, other = OAK, OAK, NONE
        for character in range(10):
            key, other = ("ask", character, ELM, key), ("ask", character, ELM, other)
            same = ("ask", 9 - character, ELM, same)
        for order in drawn_orders(4, 10):
            self.assertEqual(len(folded(key, order)), 12)
            self.assertEqual(folded(key, order), folded(same, order))
            self.assertNotEqual(folded(key, order), folded(other, order))
            self.assertNotEqual(folded(key, order), folded(ELM, order))

    def test_the_number_of_rows_is_that_of_the_ways_to_go_on(self):
        for key in each_key(2, (NONE, OAK, ELM), 2) + drawn_keys(40, 2, 5):
            for order in ((0, 1), (1, 0)):
                self.assertEqual(len(folded(key, order)), ways_to_go_on(leaves_of(key, 2), order))
        for key in drawn_keys(30, 4, 6):
            for order in drawn_orders(4, 4):
                self.assertEqual(len(folded(key, order)), ways_to_go_on(leaves_of(key, 4), order))

    def test_no_fold_that_answers_so_has_fewer_rows(self):
        """Through all tuples of up to five rows that lead ahead, whether they are a fold or not."""
        leaves, fewest = [NONE, OAK], {}
        for length in range(1, 6):
            asks = [list(itertools.product((0, 1), range(number), range(number))) for number in range(length)]
            for rows in itertools.product(*[leaves + some for some in asks]):
                way = tuple(answer_of(rows, thing) for thing in each_thing(2))
                fewest.setdefault(way, length)
        for key in each_key(2, leaves, 2):
            way = tuple(answer(key, thing) for thing in each_thing(2))
            for order in ((0, 1), (1, 0)):
                self.assertEqual(len(folded(key, order)), fewest[way])


if __name__ == "__main__":
    unittest.main()
