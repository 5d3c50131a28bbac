"""Rows of events: what comes of them, what is seen and told on the way, and their texts.

A row is a tuple of events; presses are a text, a sign for each, capital letters for the long ones.
"""

from handwatch.books import BUTTONS
from handwatch.errors import NoText
from handwatch.going import BLOCK, BLOCK_FIGURES, figures, gone, is_short, shown
from handwatch.states import HELD, begun
from handwatch.ticking import ring_ticks, stretches

FIGURES = "0123456789"


def after(book, state, row):
    for event in row:
        state = gone(book, state, event)
    return state


def pressed(book, state, presses):
    for press in presses:
        state = after(book, state, press_row(book, press))
    return state


def press_row(book, press):
    button = press.lower()
    if press == button:
        return (("down", button), ("up", button))
    return (("down", button), ("ticks", book[0]), ("up", button))


def seen(book, row):
    state = begun(book)
    sights = []
    for event in row:
        state = gone(book, state, event)
        sights.append(shown(book, state))
    return tuple(sights)


def story(book, row):
    state = begun(book)
    ticks = 0
    told = []
    for event in row:
        told.extend([(ticks + pair[0], pair[1]) for pair in happenings(book, state, event)])
        state = gone(book, state, event)
        if event[0] == "ticks":
            ticks = ticks + event[1]
    return tuple(told)


def happenings(book, state, event):
    if event[0] == "ticks":
        return tick_happenings(book, state, event[1])
    if event[0] == "up" and is_short(state, event[1]):
        return [(0, event[1])]
    return []


def tick_happenings(book, state, many):
    told = []
    for stretch in stretches(book, state, many):
        # Only a turn begins a stretch that is not the first; the ring of its tick belongs to the one ahead.
        if stretch[0] > 0:
            told.append((stretch[0], turn_sign(state)))
        told.extend([(stretch[0] + tick, "ring") for tick in ring_ticks(stretch[1], stretch[2])])
    return told


def turn_sign(state):
    return "back" if state[HELD] is None else state[HELD][0].upper()


def row_text(row):
    return " ".join([event_text(event) for event in row])


def event_text(event):
    if event[0] == "down":
        return "+" + event[1]
    if event[0] == "up":
        return "-" + event[1]
    return "." + figures(event[1])


def read_row(text):
    if text == "":
        return ()
    return tuple([read_event(word) for word in text.split(" ")])


def read_event(word):
    sign = word[:1]
    rest = word[1:]
    if sign == "+" and rest in BUTTONS:
        return ("down", rest)
    if sign == "-" and rest in BUTTONS:
        return ("up", rest)
    if sign == "." and is_many(rest):
        return ("ticks", read_many(rest))
    raise NoText("a row holds no " + repr(word))


def is_many(text):
    return text != "" and text[0] != "0" and all([sign in FIGURES for sign in text])


def read_many(text):
    # Python's own int refuses a text of some thousand figures, so it is read in parts, the first of them the short one.
    start = len(text) % BLOCK_FIGURES
    number = int("0" + text[:start])
    for place in range(start, len(text), BLOCK_FIGURES):
        number = number * BLOCK + int(text[place:place + BLOCK_FIGURES])
    return number
