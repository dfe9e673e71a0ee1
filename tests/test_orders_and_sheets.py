"""[0.4], [1.1]: orders and sheets."""

import itertools
import unittest

from keyfold.things import is_order, is_sheet


class Orders(unittest.TestCase):
    def told(self, answer, pairs):
        for thing, many in pairs:
            with self.subTest(thing=thing, many=many):
                self.assertIs(is_order(thing, many), answer)

    def test_each_number_once(self):
        for many in range(1, 6):
            self.told(True, [(order, many) for order in itertools.permutations(range(many))])
        self.told(True, [(tuple(range(10)), 10), (tuple(reversed(range(10))), 10)])
        self.told(True, [((9, 0, 8, 1, 7, 2, 6, 3, 5, 4), 10)])

    def test_just_the_permutations_of_all_tuples(self):
        for many in range(1, 5):
            orders = [thing for thing in itertools.product(range(-1, many + 1), repeat=many) if is_order(thing, many)]
            self.assertEqual(sorted(orders), sorted(itertools.permutations(range(many))))

    def test_one_missing(self):
        self.told(False, [((), 1), ((0, 1), 3), ((0, 2), 3), ((1, 2), 3), (tuple(range(9)), 10)])

    def test_one_twice(self):
        self.told(False, [((0, 0), 2), ((1, 1), 2), ((0, 1, 1), 3), ((0, 1, 2, 0), 3), ((0, 0, 1), 2)])

    def test_one_too_great(self):
        self.told(False, [((1,), 1), ((0, 2), 2), ((1, 2, 3), 3), ((0, 1, 2), 2), ((0, 1, 10**30), 3)])

    def test_one_below_nought(self):
        self.told(False, [((-1,), 1), ((0, -1), 2), ((-1, 0, 1), 3), ((-1, 0, 1), 2), ((-3, -2, -1), 3)])

    def test_a_truth_for_a_number(self):
        self.told(False, [((False,), 1), ((False, 1), 2), ((0, True), 2), ((True, False), 2), ((2, True, 0), 3)])

    def test_parts_of_other_kinds(self):
        self.told(False, [(("0",), 1), ((None,), 1), ((0, None), 2), (((0,),), 1), (([0],), 1), (([], 0), 2)])

    def test_lists_and_others_for_the_tuple(self):
        self.told(False, [([0], 1), ([0, 1], 2), ("01", 2), (0, 1), (None, 1), (True, 1), ("", 1)])


class Sheets(unittest.TestCase):
    def told(self, answer, pairs):
        for thing, many in pairs:
            with self.subTest(thing=thing, many=many):
                self.assertIs(is_sheet(thing, many), answer)

    def test_each_sheet(self):
        for many in range(1, 5):
            self.told(True, [(sheet, many) for sheet in itertools.product((0, 1, None), repeat=many)])
        self.told(True, [((None,) * 10, 10), ((0, 1, None, 1, 0, None, None, 1, 1, 0), 10)])

    def test_other_numbers(self):
        self.told(False, [((2,), 1), ((-1,), 1), ((0, 2), 2), ((2, 1, None), 3), ((None, None, 2), 3), ((0, -1), 2)])

    def test_one_part_more_or_less(self):
        self.told(False, [((), 1), ((0, 1), 1), ((0,), 2), ((0, 1, None), 2), ((None,) * 9, 10), ((None,) * 11, 10)])

    def test_a_truth_for_a_number(self):
        self.told(False, [((True,), 1), ((False,), 1), ((0, True), 2), ((False, None), 2), ((1, None, True), 3)])

    def test_parts_of_other_kinds(self):
        self.told(False, [(("0",), 1), (("",), 1), (((),), 1), (([],), 1), ((0, "1"), 2), ((None, (None,)), 2)])

    def test_lists_and_others_for_the_tuple(self):
        self.told(False, [([0], 1), ([None, None], 2), ([], 1), ("01", 2), (0, 1), (None, 1), (False, 1)])


if __name__ == "__main__":
    unittest.main()
