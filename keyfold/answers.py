"""What keys and folds answer for a thing."""

from keyfold.rows import asks


def answer(key, thing):
    here = key
    while here[0] == "ask":
        here = here[2 + thing[here[1]]]
    return here[1]


def answer_of(fold, thing):
    row = fold[-1]
    while asks(row):
        row = fold[row[1 + thing[row[0]]]]
    return row[1]
