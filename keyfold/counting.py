"""How many things come to the rows of a fold, and the least of them."""

from keyfold.rows import asks, rows_below
from keyfold.sheets import unknown_in, with_value


# How many things that agree with the sheet come to each row. No character is asked twice on a way, so of those that
# come to a row just half have 0 where the sheet does not know.
def things_coming(fold, sheet):
    coming = [0 for row in fold]
    coming[-1] = things_agreeing(sheet)
    for number in range(len(fold) - 1, -1, -1):
        ways = ways_on(fold[number], sheet)
        for below in ways:
            coming[below] += coming[number] // len(ways)
    return coming


def things_agreeing(sheet):
    things = 1
    for character in unknown_in(sheet):
        things *= 2
    return things


# The numbers of the rows that things that agree with the sheet go on to.
def ways_on(row, sheet):
    value = sheet[row[0]] if asks(row) else None
    return rows_below(row) if value is None else (row[1 + value],)


def leaves_with(fold, name):
    return [number for number, row in enumerate(fold) if not asks(row) and name in row[1]]


def count_at(fold, leaves, sheet):
    coming = things_coming(fold, sheet)
    return sum([coming[number] for number in leaves])


# The least thing that agrees with the sheet and comes to one of the leaves: 0 where that leaves such a thing.
def least_thing(fold, leaves, sheet):
    if count_at(fold, leaves, sheet) == 0:
        return None
    thing = sheet
    for character in unknown_in(sheet):
        without = with_value(thing, character, 0)
        thing = without if count_at(fold, leaves, without) > 0 else with_value(thing, character, 1)
    return thing
