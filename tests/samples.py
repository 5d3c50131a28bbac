"""Books, states and odd things that several tests hand in, and a watch that goes tick by tick to hold them against."""

import itertools
import random

PLAIN_ROWS = (("none", 0),) * 6

FACES = ("time", "alarm", "laps", "count")
DEEDS = (
    "none", "hour", "minute", "zero", "ahour", "aminute", "alarm",
    "run", "lap", "cminute", "csecond", "full", "count",
)


def mode(face="time", stays=False, rows=PLAIN_ROWS):
    return (face, stays, rows)


def book(hold=3, back=20, modes=None):
    return (hold, back, ORDINARY_MODES if modes is None else modes)


def book_of(many):
    """A book with so many modes, each of which leads on to the next and back to the one ahead."""
    modes = []
    for number in range(many):
        on = ("none", (number + 1) % many)
        off = ("none", (number - 1) % many)
        modes.append(mode(FACES[number % 4], number % 2 == 1, (on, off, on, off, on, off)))
    return book(modes=tuple(modes))


ORDINARY_MODES = (
    mode("time", True, (("none", 1), ("hour", 0), ("minute", 0), ("none", 2), ("zero", 0), ("none", 0))),
    mode("alarm", False, (("none", 2), ("ahour", 1), ("aminute", 1), ("alarm", 1), ("none", 0), ("none", 1))),
    mode("count", True, (("none", 0), ("cminute", 2), ("csecond", 2), ("full", 2), ("count", 2), ("none", 1))),
)
ORDINARY_BOOK = book()
ORDINARY_STATE = (1, 45296, (6, 30, True), (75, True, (10, 42)), (3, 20, 200, True), 4, ("b", 1), 7)


def parts_of(thing, path=()):
    """Pairs of the path to each part of nested tuples, and the part; the whole comes first."""
    found = [(path, thing)]
    if isinstance(thing, tuple):
        for number, part in enumerate(thing):
            found.extend(parts_of(part, path + (number,)))
    return found


def put(thing, path, part):
    """The nested tuples with another part at the path."""
    if path == ():
        return part
    here = path[0]
    return thing[:here] + (put(thing[here], path[1:], part),) + thing[here + 1:]


def as_lists(thing):
    """The same with lists in the stead of all tuples."""
    return [as_lists(part) for part in thing] if isinstance(thing, tuple) else thing


def wrapped(thing, deep, kinds):
    """The thing within so many tuples and lists, which take turns as the kinds say."""
    for step in range(deep):
        thing = kinds[step % len(kinds)]([thing])
    return thing


LEAVES = (0, 1, -1, 7, 10 ** 30, -(10 ** 30), True, False, None, "", "a", "time", "none", "zz", "\n")


def odd_things():
    """Things that are neither books nor states, fresh ones each time: lists stand in them."""
    things = list(LEAVES)
    things.extend([(), [], [[]], ((),), ([],), [()], [None, ()], (0, 0), (0, 0, ()), [1, 0, []], ((), (), ())])
    things.extend([(None,) * 8, (0,) * 8, [0] * 8, ("",) * 3, (True,) * 8, ((),) * 8])
    for leaf in LEAVES + ((), ORDINARY_BOOK, ORDINARY_STATE):
        for kinds in ((tuple,), (list,), (tuple, list)):
            things.extend([wrapped(leaf, 1, kinds), wrapped(leaf, 12, kinds)])
    things.extend([as_lists(ORDINARY_BOOK), as_lists(ORDINARY_STATE)])
    return things


def walk(book, presses, begin=0):
    """The mode to which the presses lead, by their nexts."""
    for press in presses:
        begin = book[2][begin][2]["abcABC".index(press)][1]
    return begin


def texts_of(length):
    """All texts of so many presses."""
    return ["".join(signs) for signs in itertools.product("abcABC", repeat=length)]


def chain(many, press, deeds=("none",) * 8, faces=("time",) * 8, back=0, stays=(True,) * 8):
    """A book in which this press alone leads from each mode to the next one, the last one to itself."""
    modes = []
    for number in range(many):
        rows = [(deeds[number], number)] * 6
        rows["abcABC".index(press)] = (deeds[number], min(number + 1, many - 1))
        modes.append(mode(faces[number], stays[number], tuple(rows)))
    return (2, back, tuple(modes))


def state(mode=0, clock=0, alarm=(0, 0, False), laps=(0, False, ()), count=(0, 0, 0, False), ring=0, held=None, idle=0):
    return (mode, clock, alarm, laps, count, ring, held, idle)


def deed_book(deed, hold=3, back=0):
    """A book in which each press in mode 0 does the deed and leads to mode 1, which does nothing and stays."""
    return (hold, back, (mode("time", True, ((deed, 1),) * 6), mode("laps", True, (("none", 1),) * 6)))


def same(case, told, asked):
    """Equal, and of the same kinds: repr tells False from 0, too, and a list from a tuple."""
    case.assertEqual(repr(told), repr(asked))


class SlowWatch:
    """Goes on one tick after the other, as the document's words go; keeps what happened, and when."""

    def __init__(self, book, state):
        self.hold, self.back, self.modes = book
        self.mode, self.clock, alarm, laps, count, self.ring, held, self.idle = state
        self.alarm, self.laps, self.count = list(alarm), list(laps), list(count)
        self.held = None if held is None else list(held)
        self.went = 0
        self.told = []

    def state(self):
        held = None if self.held is None else tuple(self.held)
        alarm, laps, count = tuple(self.alarm), tuple(self.laps), tuple(self.count)
        return (self.mode, self.clock, alarm, laps, count, self.ring, held, self.idle)

    def rings(self):
        return tuple(tick for tick, what in self.told if what == "ring")

    def go(self, row):
        for kind, what in row:
            if kind == "ticks":
                for tick in range(what):
                    self.tick()
            else:
                {"down": self.down, "up": self.up}[kind](what)
        return self

    def down(self, button):
        if self.held is None:
            self.idle = 0
            self.held = [button, 0]
            if self.ring > 0:
                self.ring = 0
                self.held = [button, None]

    def up(self, button):
        if self.held is not None and self.held[0] == button:
            if self.held[1] is not None:
                self.press(button)
            self.held = None
            self.idle = 0

    def tick(self):
        self.went += 1
        self.clock = 0 if self.clock == 86399 else self.clock + 1
        if self.ring > 0:
            self.ring -= 1
        if self.laps[1]:
            self.laps[0] += 1
        rang = self.count_down()
        hour, minute, on = self.alarm
        if rang or (on and (self.clock // 3600, self.clock % 3600 // 60, self.clock % 60) == (hour, minute, 0)):
            self.ring = 10
            self.told.append((self.went, "ring"))
        self.hold_on()

    def count_down(self):
        if self.count[3]:
            self.count[2] -= 1
            if self.count[2] == 0:
                self.count[3] = False
                return True
        return False

    def hold_on(self):
        if self.held is not None:
            if self.held[1] is not None:
                self.held[1] += 1
                if self.held[1] == self.hold:
                    self.held[1] = None
                    self.press(self.held[0].upper())
        elif self.back > 0:
            self.idle += 1
            if self.idle == self.back:
                self.idle = 0
                if not self.modes[self.mode][1]:
                    if self.mode != 0:
                        self.told.append((self.went, "back"))
                    self.mode = 0

    def press(self, press):
        self.told.append((self.went, press))
        deed, following = self.modes[self.mode][2]["abcABC".index(press)]
        self.do(deed)
        self.mode = following

    def do(self, deed):
        hour, minute, second = self.clock // 3600, self.clock % 3600 // 60, self.clock % 60
        if deed == "hour":
            hour = 0 if hour == 23 else hour + 1
        elif deed == "minute":
            minute = 0 if minute == 59 else minute + 1
        elif deed == "zero":
            second = 0
        self.clock = 3600 * hour + 60 * minute + second
        if deed == "ahour":
            self.alarm[0] = 0 if self.alarm[0] == 23 else self.alarm[0] + 1
        elif deed == "aminute":
            self.alarm[1] = 0 if self.alarm[1] == 59 else self.alarm[1] + 1
        elif deed == "alarm":
            self.alarm[2] = not self.alarm[2]
        elif deed in ("run", "lap"):
            self.do_laps(deed)
        elif deed != "none":
            self.do_count(deed)

    def do_laps(self, deed):
        if deed == "run":
            self.laps[1] = not self.laps[1]
        elif not self.laps[1]:
            self.laps = [0, False, ()]
        elif len(self.laps[2]) < 4:
            self.laps[2] = self.laps[2] + (self.laps[0],)

    def do_count(self, deed):
        place = {"cminute": 0, "csecond": 1}.get(deed)
        if place is not None and not self.count[3]:
            self.count[place] = 0 if self.count[place] == 59 else self.count[place] + 1
        if deed in ("cminute", "csecond", "full") and not self.count[3]:
            self.count[2] = 60 * self.count[0] + self.count[1]
        if deed == "count":
            self.count[3] = not self.count[3] and self.count[2] > 0


class Chance:
    """Books, states and rows of all sorts, the same ones for the same seed."""

    def __init__(self, seed):
        self.random = random.Random(seed)

    def truth(self):
        return self.random.random() < 0.5

    def pick(self, things):
        return self.random.choice(things)

    def number(self, least, most):
        return self.random.randint(least, most)

    def book(self):
        many = self.number(1, 8)
        modes = []
        for number in range(many):
            rows = tuple((self.pick(DEEDS), self.number(0, many - 1)) for press in range(6))
            modes.append(mode(self.pick(FACES), self.truth(), rows))
        return (self.number(1, 9), self.pick((0, 1, 2, 5, 20, 60)), tuple(modes))

    def dull_book(self, most=8):
        """Few faces and deeds, so that modes are often alike, and few nexts, so that some are not come to."""
        many = self.number(1, most)
        ends = [self.number(0, many - 1) for number in range(self.number(1, many))]
        faces, deeds = self.pick((("time",), ("time", "laps"))), self.pick((("run",), ("run", "run", "run", "lap")))
        modes = []
        for number in range(many):
            rows = tuple((self.pick(deeds), self.pick(ends)) for press in range(6))
            modes.append(mode(self.pick(faces), self.truth() and self.truth(), rows))
        return (self.number(1, 9), self.pick((0, 1, 60)), tuple(modes))

    def told_otherwise(self, book, most=8):
        """An alike book: modes told twice and others that are not come to as far as there is room, in another order."""
        hold, back, modes = book
        owners = list(range(len(modes))) + [self.number(0, len(modes) - 1) for number in range(most - len(modes))]
        ahead, rest = owners[:1], owners[1:]
        self.random.shuffle(rest)
        owners = ahead + rest
        told = []
        for owner in owners:
            face, stays, rows = modes[owner]
            ends = [self.pick([k for k, other in enumerate(owners) if other == row[1]]) for row in rows]
            told.append((face, stays, tuple((row[0], end) for row, end in zip(rows, ends))))
        return (self.number(1, 9), self.number(0, 60), tuple(told))

    def state(self, book):
        left = self.pick((0, 1, 2, 5, 9, 30, 3599))
        hour, minute = self.pick((0, 11, 23)), self.pick((0, 30, 59))
        alarm_second = 3600 * hour + 60 * minute
        held = self.pick((None, None, (self.pick("abc"), None), (self.pick("abc"), self.number(0, book[0] - 1))))
        return state(
            mode=self.number(0, len(book[2]) - 1),
            clock=(alarm_second + self.pick((-3600, -61, -60, -20, -9, -5, -2, -1, 0, 1, 5, 40000))) % 86400,
            alarm=(hour, minute, self.truth()),
            laps=(self.pick((0, 59, 60, 5000)), self.truth(), tuple(range(self.number(0, 4)))),
            count=(self.pick((0, 7, 59)), self.pick((0, 7, 59)), left, left > 0 and self.truth()),
            ring=self.pick((0, 0, 1, 2, 9, 10)),
            held=held,
            idle=self.number(0, max(0, book[1] - 1)),
        )

    def event(self):
        kind = self.pick(("down", "up", "ticks"))
        return (kind, self.pick((1, 1, 2, 3, 7, 9, 10, 11, 30, 60, 61)) if kind == "ticks" else self.pick("abc"))

    def row(self, most=12):
        return tuple(self.event() for number in range(self.number(0, most)))


def by_chance(seeds):
    """For each seed a chance, a book and a state of it."""
    for seed in seeds:
        chance = Chance(seed)
        at = chance.book()
        yield chance, at, chance.state(at)
