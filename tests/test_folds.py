"""[0.6], [1.1]: folds by an order."""

import itertools
import unittest

from keyfold.things import is_fold
from tests.samples import ELM, NONE, OAK, each_leaf_of, fold_of


def answer_from(fold, number, thing):
    row = fold[number]
    while len(row) == 3:
        row = fold[row[2] if thing[row[0]] else row[1]]
    return row[1]


class Folds(unittest.TestCase):
    def told(self, answer, pairs):
        for thing, order in pairs:
            with self.subTest(thing=thing, order=order):
                self.assertIs(is_fold(thing, order), answer)

    def test_one_row_alone(self):
        self.told(True, [((NONE,), (0,)), ((OAK,), (1, 0)), ((("names", ("ash", "oak")),), (2, 0, 1))])
        self.told(False, [(((0, 0, 0),), (0,)), (((0, 0, 1),), (0,)), (((0, -1, -2),), (0,))])

    def test_no_row_at_all(self):
        self.told(False, [((), (0,)), ((), (0, 1))])

    def test_ordinary(self):
        self.told(True, [((NONE, OAK, (0, 0, 1)), (0,)), ((OAK, NONE, (1, 0, 1)), (0, 1))])
        self.told(True, [((NONE, OAK, (1, 0, 1), (0, 0, 2)), (0, 1)), ((OAK, NONE, (2, 0, 1), (1, 2, 0)), (1, 2, 0))])
        self.told(True, [((NONE, OAK, (1, 0, 1), ELM, (1, 1, 3), (0, 2, 4)), (0, 1))])

    def test_every_fold_is_one(self):
        for many, leaves in ((1, (NONE, OAK, ELM)), (2, (NONE, OAK, ELM)), (3, (NONE, OAK))):
            for order in itertools.permutations(range(many)):
                for leaf_of in each_leaf_of(many, leaves):
                    fold = fold_of(leaf_of, order)
                    answers = {thing: ("names", answer_from(fold, len(fold) - 1, thing)) for thing in leaf_of}
                    self.assertEqual(answers, leaf_of)
                    self.assertIs(is_fold(fold, order), True, (fold, order))

    def test_there_is_just_one_fold_for_each_way_to_answer(self):
        leaves = [NONE, OAK]
        for order in ((0, 1), (1, 0)):
            found = []
            for length in range(1, 6):
                choices = [
                    leaves + [(character, no, yes) for character in (0, 1) for no in range(n) for yes in range(n)]
                    for n in range(length)
                ]
                found += [rows for rows in itertools.product(*choices) if is_fold(rows, order)]
            asked_for = [fold_of(leaf_of, order) for leaf_of in each_leaf_of(2, leaves)]
            self.assertEqual(len(found), 16)
            self.assertEqual(sorted(found, key=repr), sorted(asked_for, key=repr))

    def test_rows_that_lead_behind_or_to_themselves(self):
        self.told(False, [((NONE, OAK, (0, 0, 2)), (0,)), ((NONE, OAK, (0, 2, 1)), (0,))])
        self.told(False, [((NONE, OAK, (0, 0, 3)), (0,)), ((NONE, OAK, (0, 3, 1)), (0,))])
        self.told(False, [(((0, 1, 2), NONE, OAK), (0,)), ((NONE, (0, 0, 2), OAK), (0,))])
        self.told(False, [((NONE, (1, 0, 2), (0, 0, 1)), (0, 1))])
        self.told(False, [((NONE, OAK, (0, 0, -2)), (0,)), ((NONE, OAK, (0, -3, 1)), (0,))])

    def test_no_and_yes_alike(self):
        self.told(False, [((NONE, (0, 0, 0)), (0,)), ((NONE, OAK, (1, 0, 1), (0, 2, 2)), (0, 1))])

    def test_two_rows_the_same(self):
        self.told(False, [((NONE, NONE), (0,)), ((NONE, NONE, (0, 0, 1)), (0,)), ((OAK, NONE, NONE, (0, 1, 2)), (0,))])
        self.told(False, [((NONE, OAK, (1, 0, 1), (1, 0, 1), (0, 2, 3)), (0, 1))])

    def test_characters_ahead_by_the_order(self):
        fold = (NONE, OAK, (1, 0, 1), (0, 0, 2))
        self.told(True, [(fold, (0, 1)), (fold, (0, 1, 2)), (fold, (0, 2, 1)), (fold, (2, 0, 1))])
        self.told(False, [(fold, (1, 0)), (fold, (1, 0, 2)), (fold, (2, 1, 0)), (fold, (1, 2, 0))])

    def test_a_character_below_itself(self):
        self.told(False, [((NONE, OAK, (0, 0, 1), (0, 0, 2)), (0, 1)), ((NONE, OAK, (1, 0, 1), (1, 2, 0)), (0, 1))])

    def test_the_order_holds_on_both_sides_and_deep_within(self):
        right = (NONE, OAK, (2, 0, 1), (1, 0, 2), (0, 2, 3))
        self.told(True, [(right, (0, 1, 2))])
        self.told(False, [(right, (0, 2, 1)), (right, (1, 0, 2)), (right, (2, 0, 1))])
        self.told(False, [((NONE, OAK, (0, 0, 1), (1, 2, 0)), (0, 1)), ((NONE, OAK, (0, 0, 1), (1, 0, 2)), (0, 1))])

    def test_rows_in_another_order(self):
        fold = (NONE, OAK, (1, 0, 1), ELM, (1, 1, 3), (0, 2, 4))
        self.told(True, [(fold, (0, 1))])
        for places in itertools.permutations(range(len(fold))):
            moved = [None] * len(fold)
            for number, row in enumerate(fold):
                moved[places[number]] = row if len(row) == 2 else (row[0], places[row[1]], places[row[2]])
            self.assertIs(is_fold(tuple(moved), (0, 1)), tuple(moved) == fold, moved)

    def test_yes_ahead_of_no(self):
        self.told(False, [((OAK, NONE, (0, 1, 0)), (0,)), ((NONE, OAK, (1, 1, 0), (0, 0, 2)), (1, 0))])
        self.told(False, [((OAK, NONE, (1, 1, 0), (0, 1, 2)), (0, 1))])

    def test_a_row_that_nothing_leads_to(self):
        self.told(False, [((NONE, OAK), (0,)), ((NONE, OAK, ELM, (0, 0, 1)), (0,))])
        self.told(False, [((ELM, NONE, OAK, (0, 1, 2)), (0,))])
        self.told(False, [((NONE, OAK, (1, 0, 1), (0, 0, 1)), (0, 1))])

    def test_the_top_not_last(self):
        self.told(False, [(((0, 1, 2), NONE, OAK), (0,)), ((NONE, OAK, (0, 0, 1), ELM), (0,))])
        self.told(False, [((NONE, OAK, (0, 0, 2), (1, 0, 1)), (0, 1))])

    def test_characters_that_the_order_has_not(self):
        wrong = [1, 2, -1, 10**30, None, "0", "names", (0,), [0]]
        self.told(False, [((NONE, OAK, (character, 0, 1)), (0,)) for character in wrong])

    def test_truths_for_numbers(self):
        self.told(False, [((NONE, OAK, (False, 0, 1)), (0,)), ((NONE, OAK, (True, 0, 1)), (0, 1))])
        self.told(False, [((NONE, OAK, (0, False, 1)), (0,)), ((NONE, OAK, (0, 0, True)), (0,))])
        self.told(False, [((NONE, OAK, (1, 0, True), (0, 0, 2)), (0, 1))])
        self.told(False, [((NONE, OAK, (1, 0, 1), (False, 0, 2)), (0, 1))])

    def test_lists_for_tuples(self):
        self.told(False, [([NONE], (0,)), ([NONE, OAK, (0, 0, 1)], (0,)), ((NONE, OAK, [0, 0, 1]), (0,)), ([], (0,))])
        self.told(False, [((["names", ()], OAK, (0, 0, 1)), (0,)), ((NONE, ("names", ["oak"]), (0, 0, 1)), (0,))])
        self.told(False, [((["names", ()],), (0,)), ((("names", []),), (0,)), ((NONE, OAK, (0, [0], 1)), (0,))])

    def test_rows_of_other_forms(self):
        wrong = [(), (0,), (0, 1), (0, 0, 1, 1), ("ask", 0, 0, 1), ("names",), ("names", (), ()), None, 0, "", "names"]
        self.told(False, [((NONE, OAK, row), (0,)) for row in wrong])
        self.told(False, [((row,), (0,)) for row in wrong])
        self.told(False, [((NONE, row, (0, 0, 1)), (0,)) for row in wrong])

    def test_rows_with_wrong_names(self):
        wrong = [("",), ("Oak",), ("oak", "ash"), ("oak", "oak"), ("end",), ("oaktreesx",), (1,), "oak", None, 0]
        self.told(False, [((("names", names),), (0,)) for names in wrong])
        self.told(False, [((NONE, ("names", names), (0, 0, 1)), (0,)) for names in wrong])

    def test_numbers_of_other_kinds(self):
        wrong = [None, "0", "", (0,), (), [0]]
        self.told(False, [((NONE, OAK, (0, number, 1)), (0,)) for number in wrong])
        self.told(False, [((NONE, OAK, (0, 0, number)), (0,)) for number in wrong])

    def test_ten_characters(self):
        order = (3, 1, 4, 0, 5, 9, 2, 6, 8, 7)
        rows = [NONE, OAK]
        for number, character in enumerate(reversed(order)):
            rows.append((character, 0, number + 1))
        self.told(True, [(tuple(rows), order)])
        self.told(False, [(tuple(rows), tuple(reversed(order))), (tuple(rows), (1, 3) + order[2:])])


if __name__ == "__main__":
    unittest.main()
