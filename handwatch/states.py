"""States: all that a watch knows at one moment.

A state is (mode, clock, alarm, laps, count, ring, held, idle), with alarm (hour, minute, on), laps (many, runs, kept),
count (minute, second, left, runs) and held None or (button, ticks); the names MODE to IDLE are their places in it.
Each question may be asked of any thing.
"""

from handwatch.books import BUTTONS
from handwatch.kinds import is_from, is_one_of, is_truth, is_tuple_of, is_within

MODE = 0
CLOCK = 1
ALARM = 2
LAPS = 3
COUNT = 4
RING = 5
HELD = 6
IDLE = 7
LAST_SECOND = 86399
MOST_KEPT = 4
MOST_LEFT = 3599
FULL_RING = 10


def begun(book):
    # Every book has a mode 0, so that the state is the same for all of them.
    alarm = (0, 0, False)
    laps = (0, False, ())
    count = (0, 0, 0, False)
    return (0, 0, alarm, laps, count, 0, None, 0)


def put(state, place, part):
    return state[:place] + (part,) + state[place + 1:]


def is_state(book, thing):
    # A book somewhat beyond its bounds is refused nowhere, so whether it is one is not asked.
    if not is_tuple_of(thing, 8):
        return False
    return (
        is_within(thing[MODE], 0, len(book[2]) - 1)
        and is_within(thing[CLOCK], 0, LAST_SECOND)
        and is_alarm(thing[ALARM])
        and is_laps(thing[LAPS])
        and is_count(thing[COUNT])
        and is_within(thing[RING], 0, FULL_RING)
        and is_held(thing[HELD], book[0])
        and is_idle(thing[IDLE], book[1])
    )


def is_alarm(thing):
    if not is_tuple_of(thing, 3):
        return False
    return is_within(thing[0], 0, 23) and is_within(thing[1], 0, 59) and is_truth(thing[2])


def is_laps(thing):
    if not is_tuple_of(thing, 3):
        return False
    return is_from(thing[0], 0) and is_truth(thing[1]) and is_kept(thing[2])


def is_kept(thing):
    if not isinstance(thing, tuple) or len(thing) > MOST_KEPT:
        return False
    return all([is_from(part, 0) for part in thing])


def is_count(thing):
    if not is_tuple_of(thing, 4):
        return False
    return is_within(thing[0], 0, 59) and is_within(thing[1], 0, 59) and is_left_and_runs(thing[2], thing[3])


def is_left_and_runs(left, runs):
    if not is_within(left, 0, MOST_LEFT) or not is_truth(runs):
        return False
    return left > 0 or not runs


def is_held(thing, hold):
    if thing is None:
        return True
    return is_tuple_of(thing, 2) and is_one_of(thing[0], BUTTONS) and is_held_for(thing[1], hold)


def is_held_for(ticks, hold):
    # None says that the press is done: how long the button is held counts no more.
    return ticks is None or is_within(ticks, 0, hold - 1)


def is_idle(thing, back):
    if back == 0:
        return is_within(thing, 0, 0)
    return is_within(thing, 0, back - 1)
