"""Books: what the maker of a watch says of its modes.

A book is (hold, back, modes), a mode (face, stays, rows), a row (deed, next), one for each press.
Each question may be asked of any thing; many is how many modes the book has.
"""

from handwatch.kinds import is_one_of, is_truth, is_tuple_of, is_within

BUTTONS = ("a", "b", "c")
PRESSES = ("a", "b", "c", "A", "B", "C")
FACES = ("time", "alarm", "laps", "count")
DEEDS = (
    "none",
    "hour",
    "minute",
    "zero",
    "ahour",
    "aminute",
    "alarm",
    "run",
    "lap",
    "cminute",
    "csecond",
    "full",
    "count",
)
MOST_HOLD = 9
MOST_BACK = 60
MOST_MODES = 8


def is_book(thing):
    if not is_tuple_of(thing, 3):
        return False
    return is_within(thing[0], 1, MOST_HOLD) and is_within(thing[1], 0, MOST_BACK) and are_modes(thing[2])


def are_modes(thing):
    if not isinstance(thing, tuple) or not 1 <= len(thing) <= MOST_MODES:
        return False
    return all([is_mode(part, len(thing)) for part in thing])


def is_mode(thing, many):
    if not is_tuple_of(thing, 3):
        return False
    return is_one_of(thing[0], FACES) and is_truth(thing[1]) and are_rows(thing[2], many)


def are_rows(thing, many):
    if not is_tuple_of(thing, len(PRESSES)):
        return False
    return all([is_row(part, many) for part in thing])


def is_row(thing, many):
    return is_tuple_of(thing, 2) and is_one_of(thing[0], DEEDS) and is_within(thing[1], 0, many - 1)
