"""The reading of keys from their words."""

from keyfold.errors import NoText
from keyfold.things import MOST_KEYS_ABOVE, is_names


# A split at each single blank keeps every blank too many as an empty word, and those are refused like unknown ones.
class Words:
    def __init__(self, text):
        self.parts = text.split(" ")
        self.taken = 0

    def take(self):
        if not self.are_left():
            raise NoText("the text ends ahead of its key")
        self.taken += 1
        return self.parts[self.taken - 1]

    def are_left(self):
        return self.taken < len(self.parts)


def read(text, many):
    words = Words(text)
    key = read_key(words, [str(character) for character in range(many)], MOST_KEYS_ABOVE)
    if words.are_left():
        raise NoText("the text goes on behind its key")
    return key


# The depth is looked at ahead of the parts, so that no text, however deep, is followed further than a key goes.
def read_key(words, characters, depth_left):
    word = words.take()
    if word == "names":
        return ("names", read_names(words))
    if word != "ask":
        raise NoText(f"no key begins with {word!r}")
    if depth_left == 0:
        raise NoText(f"a key lies in more than {MOST_KEYS_ABOVE} others")
    character = read_character(words, characters)
    no = read_key(words, characters, depth_left - 1)
    yes = read_key(words, characters, depth_left - 1)
    return ("ask", character, no, yes)


# Looked up among the writings, not made a number: that would let signs and zeros ahead through.
def read_character(words, characters):
    word = words.take()
    if word not in characters:
        raise NoText(f"no character is written {word!r}")
    return characters.index(word)


def read_names(words):
    names = []
    word = words.take()
    while word != "end":
        names.append(word)
        word = words.take()
    if not is_names(tuple(names)):
        raise NoText(f"these are no names: {names!r}")
    return tuple(names)
