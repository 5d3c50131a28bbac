"""Ticks, however many at once.

A turn is a tick at which a press gets long, or at which the watch goes back to mode 0. Ticks alone bring one turn at
most: behind it the button is done, or the mode is 0. Up to a turn, and behind it, the counters go on by themselves, so
that where they stand, and when they ring, is reckoned at once, and many ticks take no longer than few. Such a stretch
is (ahead, state, many): how many ticks went by ahead of it, the state it begins with, and how many ticks it has.
"""

from handwatch.deeds import press_done
from handwatch.states import ALARM, CLOCK, COUNT, FULL_RING, HELD, IDLE, LAPS, MODE, RING, put

DAY = 86400


def alarm_tick(state):
    alarm = state[ALARM]
    if not alarm[2]:
        return None
    second = 3600 * alarm[0] + 60 * alarm[1]
    # Where the clock stands at that second already, the alarm rings a whole day later.
    return (second - state[CLOCK] - 1) % DAY + 1


def count_tick(state):
    count = state[COUNT]
    return count[2] if count[3] else None


def first_ring(state):
    return min([tick for tick in (alarm_tick(state), count_tick(state)) if tick is not None], default=None)


def last_ring(state, many):
    alarm = alarm_tick(state)
    count = count_tick(state)
    ticks = []
    if alarm is not None and alarm <= many:
        ticks.append(many - (many - alarm) % DAY)
    if count is not None and count <= many:
        ticks.append(count)
    return max(ticks, default=None)


def ring_ticks(state, many):
    alarm = alarm_tick(state)
    count = count_tick(state)
    ticks = []
    if alarm is not None:
        ticks = list(range(alarm, many + 1, DAY))
    if count is not None and count <= many:
        ticks.append(count)
    # Alarm and count at one tick are one ring.
    return sorted(set(ticks))


def ring_count(state, many):
    # As many as ring_ticks tells, without a walk through the days.
    alarm = alarm_tick(state)
    count = count_tick(state)
    of_alarm = 0 if alarm is None or alarm > many else (many - alarm) // DAY + 1
    of_count = 0 if count is None or count > many or count == alarm else 1
    return of_alarm + of_count


def laps_on(laps, many):
    return (laps[0] + many, True, laps[2]) if laps[1] else laps


def count_on(count, many):
    if not count[3]:
        return count
    left = max(0, count[2] - many)
    return (count[0], count[1], left, left > 0)


def ring_on(state, many):
    last = last_ring(state, many)
    if last is None:
        return max(0, state[RING] - many)
    return max(0, FULL_RING - (many - last))


def held_on(held, many):
    if held is None or held[1] is None:
        return held
    return (held[0], held[1] + many)


def ticks_to_back(book, state):
    # A state somewhat beyond its bounds is refused nowhere: what is overdue comes with the next tick.
    return max(1, book[1] - state[IDLE])


def idle_on(book, state, many):
    if state[HELD] is not None or book[1] == 0:
        return state[IDLE]
    ticks = ticks_to_back(book, state)
    return state[IDLE] + many if many < ticks else (many - ticks) % book[1]


def counted(book, state, many):
    return (
        state[MODE],
        (state[CLOCK] + many) % DAY,
        state[ALARM],
        laps_on(state[LAPS], many),
        count_on(state[COUNT], many),
        ring_on(state, many),
        held_on(state[HELD], many),
        idle_on(book, state, many),
    )


def goes_back(book, state):
    # Going back from mode 0 changes nothing.
    return book[1] > 0 and state[MODE] != 0 and not book[2][state[MODE]][1]


def ticks_to_long(book, state):
    return max(1, book[0] - state[HELD][1])


def turn_tick(book, state):
    held = state[HELD]
    if held is None:
        return ticks_to_back(book, state) if goes_back(book, state) else None
    return None if held[1] is None else ticks_to_long(book, state)


def turned(book, state):
    held = state[HELD]
    if held is None:
        return put(state, MODE, 0)
    return press_done(book, put(state, HELD, (held[0], None)), held[0].upper())


def behind_turn(book, state):
    # At its tick the counters go on ahead of the turn.
    return turned(book, counted(book, state, turn_tick(book, state)))


def stretches(book, state, many):
    turn = turn_tick(book, state)
    if turn is None or turn > many:
        return [(0, state, many)]
    return [(0, state, turn), (turn, behind_turn(book, state), many - turn)]


def ticked(book, state, many):
    last = stretches(book, state, many)[-1]
    return counted(book, last[1], last[2])
