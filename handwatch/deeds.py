"""Deeds: what a press does to the state of a watch, and to which mode it leads.

Each deed takes a state and tells the one behind it.
"""

from handwatch.books import PRESSES
from handwatch.states import ALARM, CLOCK, COUNT, LAPS, MODE, MOST_KEPT, put


def nothing(state):
    return state


def hour_on(state):
    return put(state, CLOCK, (state[CLOCK] + 3600) % 86400)


def minute_on(state):
    clock = state[CLOCK]
    # The hour stays, so the minutes go round within it.
    within = (clock % 3600 + 60) % 3600
    return put(state, CLOCK, clock - clock % 3600 + within)


def to_zero(state):
    return put(state, CLOCK, state[CLOCK] - state[CLOCK] % 60)


def alarm_hour_on(state):
    alarm = state[ALARM]
    return put(state, ALARM, ((alarm[0] + 1) % 24, alarm[1], alarm[2]))


def alarm_minute_on(state):
    alarm = state[ALARM]
    return put(state, ALARM, (alarm[0], (alarm[1] + 1) % 60, alarm[2]))


def alarm_turned(state):
    alarm = state[ALARM]
    return put(state, ALARM, (alarm[0], alarm[1], not alarm[2]))


def laps_turned(state):
    laps = state[LAPS]
    return put(state, LAPS, (laps[0], not laps[1], laps[2]))


def lap_kept(state):
    laps = state[LAPS]
    if not laps[1]:
        return put(state, LAPS, (0, False, ()))
    if len(laps[2]) >= MOST_KEPT:
        return state
    return put(state, LAPS, (laps[0], True, laps[2] + (laps[0],)))


def set_to(state, minute, second):
    # A count that runs is neither set nor filled.
    if state[COUNT][3]:
        return state
    return put(state, COUNT, (minute, second, 60 * minute + second, False))


def count_minute_on(state):
    count = state[COUNT]
    return set_to(state, (count[0] + 1) % 60, count[1])


def count_second_on(state):
    count = state[COUNT]
    return set_to(state, count[0], (count[1] + 1) % 60)


def filled(state):
    count = state[COUNT]
    return set_to(state, count[0], count[1])


def count_turned(state):
    count = state[COUNT]
    runs = not count[3] and count[2] > 0
    return put(state, COUNT, (count[0], count[1], count[2], runs))


STEPS = {
    "none": nothing,
    "hour": hour_on,
    "minute": minute_on,
    "zero": to_zero,
    "ahour": alarm_hour_on,
    "aminute": alarm_minute_on,
    "alarm": alarm_turned,
    "run": laps_turned,
    "lap": lap_kept,
    "cminute": count_minute_on,
    "csecond": count_second_on,
    "full": filled,
    "count": count_turned,
}


def press_done(book, state, press):
    rows = book[2][state[MODE]][2]
    row = rows[PRESSES.index(press)]
    step = STEPS[row[0]]
    return put(step(state), MODE, row[1])
