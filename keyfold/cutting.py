"""Folds cut down to what is known, freed of a character, held to some names, and turned to another order."""

from keyfold.pairs import common, joined, names_in_common
from keyfold.rows import Rows, asks, renamed
from keyfold.sheets import blank_sheet, with_value


def known(fold, sheet, order):
    rows = Rows(order)
    numbers = []
    for row in fold:
        numbers.append(number_known(rows, row, numbers, sheet))
    return rows.fold_from(numbers[-1])


# Numbers are those of the rows ahead, cut down already.
def number_known(rows, row, numbers, sheet):
    if not asks(row):
        return rows.number_of(row)
    value = sheet[row[0]]
    if value is None:
        return rows.number_of_ask(row[0], numbers[row[1]], numbers[row[2]])
    return numbers[row[1 + value]]


def forgotten(fold, character, order):
    return joined(cut_at(fold, character, 0, order), cut_at(fold, character, 1, order), order)


def always(fold, character, order):
    return common(cut_at(fold, character, 0, order), cut_at(fold, character, 1, order), order)


def cut_at(fold, character, value, order):
    return known(fold, with_value(blank_sheet(len(order)), character, value), order)


def only(fold, names, order):
    return renamed(fold, order, lambda held: names_in_common(held, names))


def told(fold, name, order):
    return only(fold, (name,), order)


# A row's character may come behind those below it by the new order, so it can't simply be asked ahead of them.
def turned(fold, order):
    rows = Rows(order)
    numbers = []
    for row in fold:
        if asks(row):
            numbers.append(rows.choose(row[0], numbers[row[1]], numbers[row[2]]))
        else:
            numbers.append(rows.number_of(row))
    return rows.fold_from(numbers[-1])
