"""[0.5], [0.6], [2.1]: answer and answer_of."""

import unittest

from keyfold.answers import answer, answer_of
from tests.samples import ELM, NONE, OAK, TREES, drawn_keys, each_key, each_leaf_of, each_thing, fold_of, leaf_for


class OfKeys(unittest.TestCase):
    def test_a_leaf_alone(self):
        for many in (1, 2, 10):
            for thing in each_thing(many):
                self.assertEqual(answer(NONE, thing), ())
                self.assertEqual(answer(OAK, thing), ("oak",))
                self.assertEqual(answer(TREES, thing), ("ash", "elm", "oak"))

    def test_no_where_it_has_0_and_yes_where_it_has_1(self):
        key = ("ask", 0, OAK, ELM)
        self.assertEqual([answer(key, (0,)), answer(key, (1,))], [("oak",), ("elm",)])
        key = ("ask", 1, OAK, ELM)
        self.assertEqual([answer(key, thing) for thing in each_thing(2)], [("oak",), ("elm",)] * 2)

    def test_a_character_asked_several_times_on_a_way(self):
        key = ("ask", 0, ("ask", 0, OAK, ELM), ("ask", 0, NONE, TREES))
        self.assertEqual([answer(key, (0,)), answer(key, (1,))], [OAK[1], TREES[1]])
        key = ("ask", 0, ("ask", 1, ("ask", 0, OAK, ELM), NONE), ("ask", 1, ELM, ("ask", 0, OAK, TREES)))
        self.assertEqual([answer(key, thing) for thing in each_thing(2)], [OAK[1], (), ELM[1], TREES[1]])

    def test_each_thing_of_a_key_of_three_characters(self):
        key = ("ask", 2, ("ask", 0, OAK, ("ask", 1, NONE, TREES)), ("ask", 1, ELM, NONE))
        told = {
            (0, 0, 0): OAK, (0, 1, 0): OAK, (1, 0, 0): NONE, (1, 1, 0): TREES,
            (0, 0, 1): ELM, (1, 0, 1): ELM, (0, 1, 1): NONE, (1, 1, 1): NONE,
        }
        self.assertEqual({thing: ("names", answer(key, thing)) for thing in each_thing(3)}, told)

    def test_each_thing_of_many_keys(self):
        small = each_key(2, (NONE, OAK, ELM), 2)
        for many, keys in ((2, small), (4, drawn_keys(50, 4, 7)), (10, drawn_keys(5, 10, 12))):
            for key in keys:
                for thing in each_thing(many):
                    self.assertEqual(("names", answer(key, thing)), leaf_for(key, thing))


class OfFolds(unittest.TestCase):
    def test_a_row_alone(self):
        for many in (1, 2, 10):
            for thing in each_thing(many):
                self.assertEqual(answer_of((NONE,), thing), ())
                self.assertEqual(answer_of((OAK,), thing), ("oak",))
                self.assertEqual(answer_of((TREES,), thing), ("ash", "elm", "oak"))

    def test_no_where_it_has_0_and_yes_where_it_has_1(self):
        fold = (OAK, ELM, (0, 0, 1))
        self.assertEqual([answer_of(fold, (0,)), answer_of(fold, (1,))], [("oak",), ("elm",)])
        fold = (OAK, ELM, (1, 0, 1))
        self.assertEqual([answer_of(fold, thing) for thing in each_thing(2)], [("oak",), ("elm",)] * 2)

    def test_the_top_is_the_last_row(self):
        fold = (NONE, OAK, (1, 0, 1), ELM, (1, 1, 3), (0, 2, 4))
        self.assertEqual([answer_of(fold, thing) for thing in each_thing(2)], [(), OAK[1], OAK[1], ELM[1]])

    def test_a_row_that_is_led_to_several_times(self):
        fold = (NONE, OAK, (2, 0, 1), (1, 0, 2), (0, 2, 3))
        told = [(), ("oak",), (), ("oak",), (), (), (), ("oak",)]
        self.assertEqual([answer_of(fold, thing) for thing in each_thing(3)], told)

    def test_each_thing_of_every_small_fold(self):
        for order, leaves in (((0,), (NONE, OAK, ELM)), ((1, 0), (NONE, OAK, ELM)), ((2, 0, 1), (NONE, OAK))):
            for leaf_of in each_leaf_of(len(order), leaves):
                fold = fold_of(leaf_of, order)
                self.assertEqual({thing: ("names", answer_of(fold, thing)) for thing in leaf_of}, leaf_of)

    def test_ten_characters(self):
        order = (3, 1, 4, 0, 5, 9, 2, 6, 8, 7)
        rows = [NONE, OAK]
        for number, character in enumerate(reversed(order)):
            rows.append((character, 0, number + 1))
        for thing in each_thing(10):
            self.assertEqual(answer_of(tuple(rows), thing), OAK[1] if all(thing) else ())


if __name__ == "__main__":
    unittest.main()
