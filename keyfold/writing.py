"""The writing of keys as words."""

from keyfold.errors import NoKey
from keyfold.things import is_key


def written(key, many):
    if not is_key(key, many):
        raise NoKey(f"this is no key of {many} characters")
    return " ".join(words_of(key))


def words_of(key):
    if key[0] == "names":
        return ["names"] + list(key[1]) + ["end"]
    return ["ask", str(key[1])] + words_of(key[2]) + words_of(key[3])
