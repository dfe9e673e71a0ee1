"""[1.2]: read, and NoText."""

import itertools
import unittest

from keyfold.errors import FoldError, NoKey, NoText
from keyfold.reading import read
from keyfold.things import is_key
from keyfold.writing import written
from tests.samples import ELM, NONE, OAK, TREES, drawn_keys, each_key


def chain(depth, side):
    """A key whose innermost leaf lies in as many others as told, always on one side."""
    key = OAK
    for step in range(depth):
        parts = (NONE, key) if side == "yes" else (key, NONE)
        key = ("ask", step % 10) + parts
    return key


def chain_text(depth, side):
    text = "names oak end"
    for step in range(depth):
        parts = f"names end {text}" if side == "yes" else f"{text} names end"
        text = f"ask {step % 10} {parts}"
    return text


class Read(unittest.TestCase):
    def test_leaves(self):
        self.assertEqual(read("names end", 1), NONE)
        self.assertEqual(read("names oak end", 1), OAK)
        self.assertEqual(read("names ash elm oak end", 10), TREES)
        self.assertEqual(read("names a aa ab abcdefgh b zzzzzzzz end", 3),
                         ("names", ("a", "aa", "ab", "abcdefgh", "b", "zzzzzzzz")))

    def test_no_stands_ahead_of_yes(self):
        self.assertEqual(read("ask 0 names end names oak end", 1), ("ask", 0, NONE, OAK))
        self.assertEqual(read("ask 9 names oak end names end", 10), ("ask", 9, OAK, NONE))

    def test_several_deep(self):
        text = (
            "ask 2 ask 0 names oak end ask 2 names end names ash elm oak end"
            " ask 1 names ash elm oak end names end"
        )
        key = ("ask", 2, ("ask", 0, OAK, ("ask", 2, NONE, TREES)), ("ask", 1, TREES, NONE))
        self.assertEqual(read(text, 3), key)

    def test_a_character_of_two_digits(self):
        self.assertEqual(read("ask 10 names oak end names end", 11), ("ask", 10, OAK, NONE))

    def test_what_is_written_is_read_to_the_same(self):
        keys = each_key(2, (NONE, OAK, TREES), 2) + drawn_keys(60, 2, 5)
        for key in keys:
            self.assertEqual(read(written(key, 2), 2), key)
        for key in drawn_keys(30, 10, 12) + drawn_keys(30, 10, 6):
            self.assertEqual(read(written(key, 10), 10), key)

    def test_up_to_twelve_deep(self):
        for side in ("no", "yes"):
            for depth in range(13):
                self.assertEqual(chain_text(depth, side), written(chain(depth, side), 10))
                self.assertEqual(read(chain_text(depth, side), 10), chain(depth, side))

    def test_a_full_key_of_twelve(self):
        key, text = ELM, "names elm end"
        for step in range(12):
            key, text = ("ask", step % 10, key, key), f"ask {step % 10} {text} {text}"
        self.assertEqual(read(text, 10), key)
        with self.assertRaises(NoText):
            read(f"ask 0 {text} {text}", 10)

    def test_it_is_made_of_tuples_and_whole_numbers(self):
        key = read("ask 1 names end ask 0 names oak end names end", 2)
        self.assertIs(is_key(key, 2), True)


class Refused(unittest.TestCase):
    def refused(self, texts, many=2):
        for text in texts:
            with self.subTest(text=text[:80], many=many), self.assertRaises(NoText):
                read(text, many)

    def test_the_empty_text_and_blanks_alone(self):
        self.refused(["", " ", "  ", "\n", "\t", "\n\n", " \n "])

    def test_a_blank_too_many(self):
        for text in ("names end", "names elm oak end", "ask 0 names end names oak end"):
            self.assertTrue(is_key(read(text, 2), 2))
            self.refused([" " + text, text + " ", "  " + text, text + "  ", " " + text + " "])
            words = text.split(" ")
            for place in range(1, len(words)):
                self.refused([" ".join(words[:place]) + "  " + " ".join(words[place:])])

    def test_another_sign_for_a_blank(self):
        for text in ("names end", "names elm oak end", "ask 0 names end names oak end"):
            words = text.split(" ")
            for place, sign in itertools.product(range(1, len(words)), ("\t", "\n", ",", "\n ", " \t", "\t ")):
                self.refused([" ".join(words[:place]) + sign + " ".join(words[place:])])

    def test_tabs_and_ends_of_rows_ahead_and_behind(self):
        for sign in ("\t", "\n"):
            self.refused([sign + "names end", "names end" + sign, "names oak" + sign + " end", "names " + sign + "end"])
            self.refused(["ask 0" + sign + " names end names end", "ask " + sign + "0 names end names end"])

    def test_a_word_too_few(self):
        for text in ("names end", "names oak end", "ask 0 names end ask 1 names oak end names end"):
            words = text.split(" ")
            for count in range(len(words)):
                self.refused([" ".join(words[:count])])
        self.refused(["ask names end names end", "0 names end names end", "ask 0 names end", "ask 0 end names end"])
        self.refused(["names oak", "oak end", "end", "ask 0 names names end", "ask 0 names end oak end"])

    def test_a_word_too_many(self):
        for word in ("oak", "end", "names", "ask", "0", "names end", "names oak end", "x", "ask 0"):
            self.refused([f"names end {word}", f"names oak end {word}", f"ask 0 names end names end {word}"])
        self.refused(["oak names end", "end names end", "0 names end", "names names end", "names names oak end end"])
        self.refused(["ask ask 0 names end names end", "ask 0 1 names end names end", "ask 0 0 names end names end"])
        self.refused(["ask 0 names end names end names end", "ask 0 names end oak names end"])

    def test_unknown_words(self):
        self.refused(["name end", "NAMES end", "Names end", "names END", "names End", "leaf end", "oak", "0"])
        self.refused(["Ask 0 names end names end", "asks 0 names end names end", "ask 0 name end names end"])
        self.refused(["ask 0 names end Names end", "('names', ())", "names; end", "names, end", "names end."])

    def test_every_first_word_but_two(self):
        for word in ("end", "oak", "no", "yes", "0", "1", "None", "~", "names'", "ask0", "namesend"):
            self.refused([f"{word} end", f"{word} 0 names end names end", f"ask 0 names end {word} end"])

    def test_names_that_are_none(self):
        self.refused([f"names {word} end" for word in ("Oak", "oaK", "o-k", "oak1", "1", "0", "o_k", "oak.", "~", "'")])
        self.refused(["names ask end", "names names end", "names ash ask end", "names oak Oak end"])
        self.refused(["ask 0 names end names Oak end", "ask 0 names o+k end names end"])

    def test_how_long_a_name_is(self):
        self.assertEqual(read("names abcdefgh end", 1), ("names", ("abcdefgh",)))
        self.refused(["names abcdefghi end", "names a abcdefghi end", "names " + "a" * 5000 + " end"])

    def test_names_not_by_the_alphabet(self):
        self.refused(["names oak elm end", "names ab a end", "names a c b end", "ask 0 names b a end names end"])

    def test_one_name_twice(self):
        self.refused(["names oak oak end", "names a b b end", "names a a b end", "names a b a end"])

    def test_characters_that_are_not_below_many(self):
        for many in (1, 2, 9, 10):
            self.assertEqual(read(f"ask {many - 1} names end names end", many), ("ask", many - 1, NONE, NONE))
            for character in (many, many + 1, 10 * many, 99, 10**30, "9" * 5000):
                self.refused([f"ask {character} names end names end"], many)
                self.refused([f"ask 0 names end ask {character} names end names end"], many)

    def test_characters_written_otherwise(self):
        words = ["+0", "-0", "+1", "-1", "00", "01", "001", "1.0", "1.", "0x1", "1e0", "1_0", "0_1", "1,", "one", "b1"]
        words += ["", "oak", "names", "ask", "end", "True", "None", "(0)", "'0'", "10 ", "~"]
        for word, many in itertools.product(words, (2, 10, 11)):
            self.refused([f"ask {word} names end names end"], many)

    def test_thirteen_deep_and_more(self):
        for depth, side in itertools.product((13, 14, 30, 150, 1500, 20000), ("no", "yes")):
            if depth < 1000:
                self.refused([chain_text(depth, side)], 10)
            self.refused(["ask 0 " * depth + "names end" + " names end" * depth], 10)
            self.refused(["ask 0 names end " * depth + "names end"], 10)

    def test_no_text_but_the_writing_is_read(self):
        """Of all rows of a few words just those are read that are the writing of some key."""
        words = ("names", "ask", "end", "0", "1", "a", "b", "")
        keys = {written(key, 1): key for key in each_key(1, (NONE, ("names", ("a",)), ("names", ("b",))), 1)}
        keys["names a b end"] = ("names", ("a", "b"))
        for count in range(1, 7):
            for row in itertools.product(words, repeat=count):
                text = " ".join(row)
                if text in keys:
                    self.assertEqual(read(text, 1), keys[text])
                else:
                    self.assertRaises(NoText, read, text, 1)

    def test_the_refusal_is_taken_by_its_bases(self):
        for base in (NoText, FoldError, ValueError):
            for text in ("", "names", "ask 0", "oak", "names end end", "names b a end", "ask 2 names end names end"):
                with self.subTest(base=base, text=text), self.assertRaises(base):
                    read(text, 2)

    def test_the_refusal_is_no_nokey(self):
        for text in ("", "names", "ask 0", "oak", "names end end", "names b a end", "ask 2 names end names end"):
            try:
                read(text, 2)
            except NoKey:
                self.fail("NoKey in the place of NoText")
            except NoText:
                pass


if __name__ == "__main__":
    unittest.main()
