"""[1.1]: things of any kind, up to some thirty deep. [0.3]: nothing is changed, and the same is told again."""

import copy
import random
import unittest

from keyfold.errors import NoKey
from keyfold.things import is_fold, is_key, is_names, is_order, is_sheet
from keyfold.writing import written

ORDER = (2, 0, 1)
ASKED = [
    is_names,
    lambda thing: is_order(thing, 3),
    lambda thing: is_sheet(thing, 3),
    lambda thing: is_key(thing, 3),
    lambda thing: is_fold(thing, ORDER),
]
PLAIN = [0, 1, 2, 3, -1, 10**40, True, False, None, "", "oak", "ash", "names", "ask", "end", "A b", "~", "\t\n"]


def nested(depth, wrap):
    thing = ("names", ())
    for _ in range(depth):
        thing = wrap(thing)
    return thing


def deep_things():
    wraps = [
        lambda thing: (thing,),
        lambda thing: [thing],
        lambda thing: (thing, thing),
        lambda thing: ("names", thing),
        lambda thing: ("names", (thing,)),
        lambda thing: ("ask", 0, thing, thing),
        lambda thing: ("ask", thing, thing, thing),
        lambda thing: ("ask", 0, ("names", ()), thing),
        lambda thing: ["ask", 0, thing, ("names", ())],
        lambda thing: (("names", ()), thing, (0, 0, 1)),
        lambda thing: (("names", ()), (thing, 0, thing)),
        lambda thing: (0, thing, None),
    ]
    return [nested(depth, wrap) for wrap in wraps for depth in (1, 2, 5, 12, 13, 14, 30, 33)]


def drawn(source, depth):
    if depth == 0 or source.random() < 0.3:
        return source.choice(PLAIN)
    parts = [drawn(source, depth - 1) for _ in range(source.randrange(5))]
    if source.random() < 0.3:
        parts = [source.choice(["names", "ask", 0, 1])] + parts
    return parts if source.random() < 0.2 else tuple(parts)


def drawn_things():
    source = random.Random(1)
    return [drawn(source, depth) for depth in range(6) for _ in range(400)]


def right_things():
    leaf, oak = ("names", ()), ("names", ("oak",))
    return [(), ("ash", "oak"), (0, 1, 2), (2, 0, 1), (None, 0, 1), leaf, ("ask", 0, leaf, ("ask", 2, oak, leaf)),
            (leaf,), (leaf, oak, (0, 0, 1)), (leaf, oak, (0, 0, 1), (2, 0, 2))]


class AnyThing(unittest.TestCase):
    def test_true_or_false_of_any_thing(self):
        for thing in PLAIN + deep_things() + drawn_things() + right_things():
            for asked in ASKED:
                self.assertIn(asked(thing), (True, False))
                self.assertIsInstance(asked(thing), bool)

    def test_each_right_thing_is_one(self):
        for thing in right_things():
            self.assertTrue(any(asked(thing) for asked in ASKED), thing)

    def test_deep_things_are_none(self):
        for depth in (13, 20, 30, 33):
            thing = nested(depth, lambda inner: ("ask", 0, inner, inner))
            for asked in ASKED:
                self.assertIs(asked(thing), False)

    def test_no_key_of_any_kind(self):
        for thing in PLAIN + deep_things() + drawn_things():
            if not is_key(thing, 3):
                with self.assertRaises(NoKey):
                    written(thing, 3)


class Unchanged(unittest.TestCase):
    def test_what_is_handed_in_is_as_it_was(self):
        for thing in drawn_things() + right_things() + [[[0], ["names", ["oak"]]], (["b", "a"],)]:
            before = copy.deepcopy(thing)
            for asked in ASKED:
                first = asked(thing)
                self.assertEqual(repr(thing), repr(before))
                self.assertIs(asked(thing), first)
                self.assertIs(asked(copy.deepcopy(thing)), first)

    def test_lists_are_not_sorted_in_place(self):
        thing = [1, 0, 2]
        for asked in ASKED:
            asked(thing)
        self.assertEqual(thing, [1, 0, 2])

    def test_the_order_is_as_it_was(self):
        order = (1, 0)
        fold = (("names", ()), ("names", ("oak",)), (0, 0, 1), (1, 0, 2))
        self.assertEqual([is_fold(fold, order), is_fold(fold, order)], [True, True])
        self.assertEqual(order, (1, 0))
        self.assertEqual(fold, (("names", ()), ("names", ("oak",)), (0, 0, 1), (1, 0, 2)))

    def test_one_answer_does_not_hang_of_another(self):
        key = ("ask", 2, ("names", ()), ("names", ("oak",)))
        answers = [is_key(key, many) for many in (3, 2, 3, 1, 3)]
        self.assertEqual(answers, [True, False, True, False, True])

    def test_written_twice(self):
        key = ("ask", 1, ("names", ("ash", "oak")), ("ask", 0, ("names", ()), ("names", ("elm",))))
        before = copy.deepcopy(key)
        first = written(key, 2)
        with self.assertRaises(NoKey):
            written(key, 1)
        self.assertEqual(written(key, 2), first)
        self.assertEqual(key, before)

    def test_refused_twice(self):
        thing = ["names", ["oak"]]
        for _ in range(2):
            with self.assertRaises(NoKey):
                written(thing, 2)
        self.assertEqual(thing, ["names", ["oak"]])


if __name__ == "__main__":
    unittest.main()
