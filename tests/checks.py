"""What is asked of every fold that the program makes."""

import unittest

from keyfold.answers import answer_of
from keyfold.things import is_fold
from tests.samples import fold_answering


class FoldCase(unittest.TestCase):
    def answers_so(self, fold, names_of, order, hint=None):
        """It is a fold by this order, answers these names for each thing, and is as built without the program."""
        self.assertIs(is_fold(fold, order), True, (hint, fold))
        for thing, names in names_of.items():
            self.assertEqual(answer_of(fold, thing), tuple(sorted(names)), (hint, thing))
        self.assertEqual(fold, fold_answering(names_of, order), hint)
