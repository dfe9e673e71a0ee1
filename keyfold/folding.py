"""Keys folded into rows, and folds unfolded into keys."""

from keyfold.rows import Rows, asks


def folded(key, order):
    rows = Rows(order)
    return rows.fold_from(number_of_key(rows, key))


# A key's leaf and a fold's leaf row have one form.
def number_of_key(rows, key):
    if key[0] == "names":
        return rows.number_of(key)
    return rows.choose(key[1], number_of_key(rows, key[2]), number_of_key(rows, key[3]))


# Rows lead only to rows ahead of them, so the keys of these are there already.
def unfolded(fold):
    keys = []
    for row in fold:
        keys.append(("ask", row[0], keys[row[1]], keys[row[2]]) if asks(row) else row)
    return keys[-1]


def asked(fold):
    return tuple(sorted(set([row[0] for row in fold if asks(row)])))
