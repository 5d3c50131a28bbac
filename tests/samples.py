"""Books, states and odd things that several tests hand in."""

PLAIN_ROWS = (("none", 0),) * 6

FACES = ("time", "alarm", "laps", "count")
DEEDS = (
    "none", "hour", "minute", "zero", "ahour", "aminute", "alarm",
    "run", "lap", "cminute", "csecond", "full", "count",
)


def mode(face="time", stays=False, rows=PLAIN_ROWS):
    return (face, stays, rows)


def book(hold=3, back=20, modes=None):
    return (hold, back, ORDINARY_MODES if modes is None else modes)


def book_of(many):
    """A book with so many modes, each of which leads on to the next and back to the one ahead."""
    modes = []
    for number in range(many):
        on = ("none", (number + 1) % many)
        off = ("none", (number - 1) % many)
        modes.append(mode(FACES[number % 4], number % 2 == 1, (on, off, on, off, on, off)))
    return book(modes=tuple(modes))


ORDINARY_MODES = (
    mode("time", True, (("none", 1), ("hour", 0), ("minute", 0), ("none", 2), ("zero", 0), ("none", 0))),
    mode("alarm", False, (("none", 2), ("ahour", 1), ("aminute", 1), ("alarm", 1), ("none", 0), ("none", 1))),
    mode("count", True, (("none", 0), ("cminute", 2), ("csecond", 2), ("full", 2), ("count", 2), ("none", 1))),
)
ORDINARY_BOOK = book()
ORDINARY_STATE = (1, 45296, (6, 30, True), (75, True, (10, 42)), (3, 20, 200, True), 4, ("b", 1), 7)


def parts_of(thing, path=()):
    """Pairs of the path to each part of nested tuples, and the part; the whole comes first."""
    found = [(path, thing)]
    if isinstance(thing, tuple):
        for number, part in enumerate(thing):
            found.extend(parts_of(part, path + (number,)))
    return found


def put(thing, path, part):
    """The nested tuples with another part at the path."""
    if path == ():
        return part
    here = path[0]
    return thing[:here] + (put(thing[here], path[1:], part),) + thing[here + 1:]


def as_lists(thing):
    """The same with lists in the stead of all tuples."""
    return [as_lists(part) for part in thing] if isinstance(thing, tuple) else thing


def wrapped(thing, deep, kinds):
    """The thing within so many tuples and lists, which take turns as the kinds say."""
    for step in range(deep):
        thing = kinds[step % len(kinds)]([thing])
    return thing


LEAVES = (0, 1, -1, 7, 10 ** 30, -(10 ** 30), True, False, None, "", "a", "time", "none", "zz", "\n")


def odd_things():
    """Things that are neither books nor states, fresh ones each time: lists stand in them."""
    things = list(LEAVES)
    things.extend([(), [], [[]], ((),), ([],), [()], [None, ()], (0, 0), (0, 0, ()), [1, 0, []], ((), (), ())])
    things.extend([(None,) * 8, (0,) * 8, [0] * 8, ("",) * 3, (True,) * 8, ((),) * 8])
    for leaf in LEAVES + ((), ORDINARY_BOOK, ORDINARY_STATE):
        for kinds in ((tuple,), (list,), (tuple, list)):
            things.extend([wrapped(leaf, 1, kinds), wrapped(leaf, 12, kinds)])
    things.extend([as_lists(ORDINARY_BOOK), as_lists(ORDINARY_STATE)])
    return things
