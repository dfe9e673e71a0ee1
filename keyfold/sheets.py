"""Sheets: what of a thing is known."""


def blank_sheet(many):
    return tuple([None for character in range(many)])


def with_value(sheet, character, value):
    return sheet[:character] + (value,) + sheet[character + 1:]


# The characters that the sheet tells nothing of, rising.
def unknown_in(sheet):
    return [character for character, value in enumerate(sheet) if value is None]
