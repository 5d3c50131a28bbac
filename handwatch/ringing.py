"""When a watch rings, if nothing but ticks goes by."""

from handwatch.ticking import behind_turn, first_ring, ring_count, ring_ticks, stretches, turn_tick


def rings(book, state, many):
    ticks = []
    for stretch in stretches(book, state, many):
        ticks.extend([stretch[0] + tick for tick in ring_ticks(stretch[1], stretch[2])])
    return tuple(ticks)


def how_many_rings(book, state, many):
    return sum([ring_count(stretch[1], stretch[2]) for stretch in stretches(book, state, many)])


def next_ring(book, state):
    first = first_ring(state)
    turn = turn_tick(book, state)
    if turn is None or (first is not None and first <= turn):
        return first
    # The deed of a long press may bring the ring nearer, move it on, or do away with it.
    later = first_ring(behind_turn(book, state))
    return None if later is None else turn + later
