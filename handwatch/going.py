"""What happens to a watch by one event, and what it shows.

An event is ("down", button), ("up", button) or ("ticks", many).
"""

from handwatch.deeds import press_done
from handwatch.states import ALARM, CLOCK, COUNT, HELD, IDLE, LAPS, MODE, RING, put
from handwatch.ticking import ticked

BLOCK = 1000000000000000000
BLOCK_FIGURES = 18


def gone(book, state, event):
    if event[0] == "down":
        return pushed(state, event[1])
    if event[0] == "up":
        return let_go(book, state, event[1])
    return ticked(book, state, event[1])


def pushed(state, button):
    if state[HELD] is not None:
        return state
    # A press that stops the ringing does nothing else, however long it is.
    ticks = None if state[RING] > 0 else 0
    return put(put(put(state, RING, 0), HELD, (button, ticks)), IDLE, 0)


def let_go(book, state, button):
    if not is_holding(state, button):
        return state
    if is_short(state, button):
        state = press_done(book, state, button)
    return put(put(state, HELD, None), IDLE, 0)


def is_holding(state, button):
    return state[HELD] is not None and state[HELD][0] == button


def is_short(state, button):
    return is_holding(state, button) and state[HELD][1] is not None


def shown(book, state):
    face = book[2][state[MODE]][0]
    face_text = FACE_TEXTS[face]
    return (face, face_text(state), state[RING] > 0)


def figures(number):
    # Python's own str refuses a number of some thousand figures, so it is written in parts.
    texts = []
    while number >= BLOCK:
        texts.append(str(number % BLOCK).rjust(BLOCK_FIGURES, "0"))
        number = number // BLOCK
    texts.append(str(number))
    return "".join(reversed(texts))


def two_figures(number):
    return figures(number).rjust(2, "0")


def hour_text(hour, minute):
    return two_figures(hour) + ":" + two_figures(minute)


def minute_text(seconds):
    return figures(seconds // 60) + ":" + two_figures(seconds % 60)


def time_text(state):
    clock = state[CLOCK]
    return hour_text(clock // 3600, clock // 60 % 60) + ":" + two_figures(clock % 60)


def alarm_text(state):
    alarm = state[ALARM]
    return hour_text(alarm[0], alarm[1]) + (" on" if alarm[2] else "")


def laps_text(state):
    laps = state[LAPS]
    kept = len(laps[2])
    return minute_text(laps[0]) + (" +" + str(kept) if kept > 0 else "")


def count_text(state):
    return minute_text(state[COUNT][2])


FACE_TEXTS = {"time": time_text, "alarm": alarm_text, "laps": laps_text, "count": count_text}
