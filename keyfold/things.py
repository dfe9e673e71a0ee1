"""Whether a thing is names, an order, a sheet, a key or a fold."""

from keyfold.rows import place_of, rows_as_left, rows_below

KEPT_WORDS = ("names", "ask", "end")
MOST_LETTERS = 8
MOST_KEYS_ABOVE = 12


# Python counts True and False among its ints, so they are kept out by name.
def is_number_below(thing, bound):
    return isinstance(thing, int) and not isinstance(thing, bool) and 0 <= thing < bound


def is_tuple_of(thing, length):
    return isinstance(thing, tuple) and len(thing) == length


# Not isalpha and islower: these take letters beyond a to z as well.
def has_plain_letters(text):
    return all(["a" <= sign <= "z" for sign in text])


def is_name(thing):
    if not isinstance(thing, str) or thing in KEPT_WORDS:
        return False
    return 1 <= len(thing) <= MOST_LETTERS and has_plain_letters(thing)


def is_names(thing):
    if not isinstance(thing, tuple) or not all([is_name(part) for part in thing]):
        return False
    return thing == tuple(sorted(set(thing)))


def is_order(thing, many):
    if not is_tuple_of(thing, many) or not all([is_number_below(part, many) for part in thing]):
        return False
    return len(set(thing)) == many


def is_sheet(thing, many):
    return is_tuple_of(thing, many) and all([part is None or is_number_below(part, 2) for part in thing])


# A key's leaf and a fold's leaf row have one form.
def is_leaf(thing):
    return is_tuple_of(thing, 2) and thing[0] == "names" and is_names(thing[1])


def is_ask(thing, many):
    return is_tuple_of(thing, 4) and thing[0] == "ask" and is_number_below(thing[1], many)


def is_key(thing, many):
    return is_key_within(thing, many, MOST_KEYS_ABOVE)


# The depth is looked at ahead of the parts, so that no thing, however deep, is walked further than a key goes.
def is_key_within(thing, many, depth_left):
    if is_leaf(thing):
        return True
    if depth_left == 0 or not is_ask(thing, many):
        return False
    return is_key_within(thing[2], many, depth_left - 1) and is_key_within(thing[3], many, depth_left - 1)


def is_fold(thing, order):
    if not isinstance(thing, tuple) or len(thing) == 0:
        return False
    if not all([is_row(row, number, len(order)) for number, row in enumerate(thing)]):
        return False
    if len(set(thing)) < len(thing) or not all([keeps_order(thing, row, order) for row in thing]):
        return False
    return rows_as_left(thing, len(thing) - 1) == list(range(len(thing)))


def is_row(thing, number, many):
    return is_leaf(thing) or is_asking_row(thing, number, many)


def is_asking_row(thing, number, many):
    if not is_tuple_of(thing, 3) or not is_number_below(thing[0], many):
        return False
    return is_number_below(thing[1], number) and is_number_below(thing[2], number) and thing[1] != thing[2]


def keeps_order(fold, row, order):
    return all([place_of(row, order) < place_of(fold[number], order) for number in rows_below(row)])
