"""[0.4], [1.1]: names."""

import string
import unittest

from keyfold.things import is_names


class Names(unittest.TestCase):
    def told(self, answer, things):
        for thing in things:
            with self.subTest(thing=thing):
                self.assertIs(is_names(thing), answer)

    def test_ordinary(self):
        self.told(True, [("oak",), ("ash", "elm", "oak"), ("a", "aa", "ab", "b"), ("nam", "namest")])

    def test_empty(self):
        self.told(True, [()])

    def test_each_letter(self):
        self.told(True, [(letter,) for letter in string.ascii_lowercase])
        self.told(True, [tuple(string.ascii_lowercase)])

    def test_how_long_a_name_is(self):
        self.told(True, [("a",), ("abcdefgh",), ("zzzzzzzz",)])
        self.told(False, [("",), ("abcdefghi",), ("", "a"), ("a", "abcdefghi"), ("a" * 30,)])

    def test_every_other_sign(self):
        others = [chr(code) for code in range(0, 0x250) if chr(code) not in string.ascii_lowercase]
        for other in others:
            self.told(False, [(other,), ("a" + other,), (other + "a",), ("a" + other + "z",)])

    def test_kept_words(self):
        self.told(False, [("names",), ("ask",), ("end",), ("ask", "oak"), ("ash", "end"), ("a", "names", "z")])

    def test_words_near_the_kept_ones(self):
        self.told(True, [("name",), ("asks",), ("ends",), ("en",), ("as",), ("namesa",)])

    def test_by_the_alphabet(self):
        self.told(False, [("b", "a"), ("ab", "a"), ("a", "c", "b"), ("b", "a", "c"), ("b", "ab")])

    def test_one_name_twice(self):
        self.told(False, [("a", "a"), ("a", "b", "b"), ("a", "a", "b"), ("a", "b", "a")])

    def test_lists(self):
        self.told(False, [[], ["a"], ["a", "b"], (["a"],), (("a",),)])

    def test_parts_that_are_no_texts(self):
        self.told(False, [(0,), (1, 2), (None,), (True,), ("a", 1), (1, "a"), ("a", None), ((),), ("a", ("b",))])

    def test_no_tuple_at_all(self):
        self.told(False, ["", "a", "abc", 0, 1, None, True, False])


if __name__ == "__main__":
    unittest.main()
