"""What a fold tells of the things that agree with a sheet."""

from keyfold.counting import count_at, least_thing, leaves_with, things_coming
from keyfold.rows import asks
from keyfold.sheets import blank_sheet, unknown_in, with_value


# Pairs of names and of how many things that agree with the sheet are answered so; each names once, some for none.
def counted(fold, sheet):
    return [(row[1], coming) for row, coming in zip(fold, things_coming(fold, sheet)) if not asks(row)]


def answers_left(fold, sheet):
    return [pair[0] for pair in counted(fold, sheet) if pair[1] > 0]


def possible(fold, sheet):
    found = []
    for names in answers_left(fold, sheet):
        found.extend(names)
    return tuple(sorted(set(found)))


def sure(fold, sheet):
    left = answers_left(fold, sheet)
    return tuple([name for name in left[0] if all([name in names for names in left])])


# Every row of a fold is come to by some thing, so no number is 0.
def counts(fold, many):
    return tuple(sorted(counted(fold, blank_sheet(many))))


def count_name(fold, name, sheet):
    return count_at(fold, leaves_with(fold, name), sheet)


def witness(fold, name, sheet):
    return least_thing(fold, leaves_with(fold, name), sheet)


# Of several that are alike min takes the first, and unknown_in has the characters rising.
def next_of(fold, sheet):
    return min(unknown_in(sheet), key=lambda character: most_left(fold, sheet, character), default=None)


# How many names are possible at worst when the character becomes known.
def most_left(fold, sheet, character):
    return max([len(possible(fold, with_value(sheet, character, value))) for value in (0, 1)])
