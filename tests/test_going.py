"""Presses, deeds and what is shown: [2.1], [2.3], [2.4]."""

import copy
import unittest

from handwatch.going import gone, shown
from handwatch.states import begun, is_state
from samples import (
    DEEDS, FACES, ORDINARY_BOOK, ORDINARY_STATE, Chance, SlowWatch, book, by_chance, deed_book, mode, put, same, state,
)

MODE, CLOCK, ALARM, LAPS, COUNT, RING, HELD, IDLE = ((place,) for place in range(8))

# Each press does another deed and leads to another mode, so that one is not taken for another.
PRESS_ROWS = (("hour", 1), ("minute", 2), ("zero", 3), ("ahour", 4), ("aminute", 5), ("alarm", 6))
PRESS_BOOK = book(hold=2, back=20, modes=(mode("time", False, PRESS_ROWS),) + (mode("laps"),) * 6)


def with_parts(at, parts):
    for place, part in parts:
        at = put(at, place, part)
    return at


class Down(unittest.TestCase):
    def test_none_held(self):
        for button in "abc":
            ahead = with_parts(ORDINARY_STATE, ((HELD, None), (RING, 0)))
            asked = with_parts(ahead, ((HELD, (button, 0)), (IDLE, 0)))
            same(self, gone(ORDINARY_BOOK, ahead, ("down", button)), asked)

    def test_none_held_while_it_rings(self):
        for ring in range(1, 11):
            ahead = with_parts(ORDINARY_STATE, ((HELD, None), (RING, ring)))
            asked = with_parts(ahead, ((HELD, ("c", None)), (IDLE, 0), (RING, 0)))
            same(self, gone(ORDINARY_BOOK, ahead, ("down", "c")), asked)

    def test_a_button_is_held(self):
        for ring in (0, 1, 10):
            for held in (("a", 0), ("a", 2), ("a", None)):
                for button in "abc":
                    ahead = with_parts(ORDINARY_STATE, ((HELD, held), (RING, ring)))
                    same(self, gone(ORDINARY_BOOK, ahead, ("down", button)), ahead)

    def test_it_does_no_press(self):
        for button in "abc":
            ahead = state(clock=4000)
            same(self, gone(PRESS_BOOK, ahead, ("down", button)), put(ahead, HELD, (button, 0)))


class Up(unittest.TestCase):
    def test_none_is_held(self):
        for button in "abc":
            for ring in (0, 5):
                ahead = with_parts(ORDINARY_STATE, ((HELD, None), (RING, ring)))
                same(self, gone(ORDINARY_BOOK, ahead, ("up", button)), ahead)

    def test_another_is_held(self):
        for held in (("a", 0), ("a", 2), ("a", None)):
            for button in "bc":
                ahead = put(ORDINARY_STATE, HELD, held)
                same(self, gone(ORDINARY_BOOK, ahead, ("up", button)), ahead)

    def test_the_same_is_held_and_not_done(self):
        for ticks in (0, 1):
            ahead = state(clock=4005, alarm=(5, 6, False), held=("a", ticks), idle=7)
            same(self, gone(PRESS_BOOK, ahead, ("up", "a")), state(1, 7605, (5, 6, False)))
            ahead = put(ahead, HELD, ("b", ticks))
            same(self, gone(PRESS_BOOK, ahead, ("up", "b")), state(2, 4065, (5, 6, False)))
            ahead = put(ahead, HELD, ("c", ticks))
            same(self, gone(PRESS_BOOK, ahead, ("up", "c")), state(3, 3960, (5, 6, False)))

    def test_the_same_is_held_and_done(self):
        for button in "abc":
            for ring in (0, 3):
                ahead = state(clock=4005, ring=ring, held=(button, None), idle=7)
                same(self, gone(PRESS_BOOK, ahead, ("up", button)), state(clock=4005, ring=ring))

    def test_while_it_rings_the_press_is_done(self):
        # It began to ring behind down, so the ringing goes on.
        ahead = state(clock=4005, ring=10, held=("a", 1))
        same(self, gone(PRESS_BOOK, ahead, ("up", "a")), state(1, 7605, ring=10))

    def test_the_press_that_stops_the_ringing_does_nothing_else(self):
        behind = state(clock=4005, ring=6, idle=5)
        for event in (("down", "a"), ("up", "a")):
            behind = gone(PRESS_BOOK, behind, event)
        same(self, behind, state(clock=4005))
        behind = state(clock=4005, ring=6)
        for event in (("down", "a"), ("ticks", 5), ("up", "a")):
            behind = gone(PRESS_BOOK, behind, event)
        same(self, behind, state(clock=4010))


class LongPresses(unittest.TestCase):
    def test_each_button(self):
        for button, asked in (
            ("a", state(4, 4007, (6, 6, False))),
            ("b", state(5, 4007, (5, 7, False))),
            ("c", state(6, 4007, (5, 6, True))),
        ):
            ahead = state(clock=4005, alarm=(5, 6, False))
            held = gone(PRESS_BOOK, gone(PRESS_BOOK, ahead, ("down", button)), ("ticks", 2))
            same(self, held, put(asked, HELD, (button, None)))
            same(self, gone(PRESS_BOOK, held, ("up", button)), asked)


# For each deed pairs of a state and the one that it makes of that, their modes aside.
LAPS_4 = (9, 20, 20, 31)
DEED_CASES = {
    "none": [(put(ORDINARY_STATE, HELD, None),) * 2, (state(),) * 2],
    "hour": [
        (state(clock=0), state(clock=3600)),
        (state(clock=45296), state(clock=48896)),
        (state(clock=22 * 3600 + 3599), state(clock=86399)),
        (state(clock=23 * 3600), state(clock=0)),
        (state(clock=86399), state(clock=3599)),
    ],
    "minute": [
        (state(clock=0), state(clock=60)),
        (state(clock=45296), state(clock=45356)),
        (state(clock=5 * 3600 + 58 * 60 + 7), state(clock=5 * 3600 + 59 * 60 + 7)),
        (state(clock=5 * 3600 + 59 * 60 + 7), state(clock=5 * 3600 + 7)),
        (state(clock=59 * 60), state(clock=0)),
        (state(clock=86399), state(clock=23 * 3600 + 59)),
    ],
    "zero": [
        (state(clock=0), state(clock=0)),
        (state(clock=59), state(clock=0)),
        (state(clock=60), state(clock=60)),
        (state(clock=45296), state(clock=45240)),
        (state(clock=86399), state(clock=86340)),
    ],
    "ahour": [
        (state(alarm=(0, 0, False)), state(alarm=(1, 0, False))),
        (state(clock=5, alarm=(22, 59, True)), state(clock=5, alarm=(23, 59, True))),
        (state(clock=5, alarm=(23, 59, True)), state(clock=5, alarm=(0, 59, True))),
    ],
    "aminute": [
        (state(alarm=(0, 0, False)), state(alarm=(0, 1, False))),
        (state(clock=5, alarm=(23, 58, True)), state(clock=5, alarm=(23, 59, True))),
        (state(clock=5, alarm=(23, 59, True)), state(clock=5, alarm=(23, 0, True))),
    ],
    "alarm": [
        (state(alarm=(6, 30, False)), state(alarm=(6, 30, True))),
        (state(clock=5, alarm=(6, 30, True)), state(clock=5, alarm=(6, 30, False))),
    ],
    "run": [
        (state(laps=(0, False, ())), state(laps=(0, True, ()))),
        (state(laps=(75, False, LAPS_4)), state(laps=(75, True, LAPS_4))),
        (state(laps=(75, True, (3,))), state(laps=(75, False, (3,)))),
    ],
    "lap": [
        (state(laps=(20, True, LAPS_4[:many])), state(laps=(20, True, LAPS_4[:many] + (20,)))) for many in range(4)
    ] + [
        (state(laps=(20, False, LAPS_4[:many])), state(laps=(0, False, ()))) for many in range(5)
    ] + [(state(laps=(40, True, LAPS_4)),) * 2],
    "cminute": [
        (state(count=(0, 0, 0, False)), state(count=(1, 0, 60, False))),
        (state(count=(58, 59, 7, False)), state(count=(59, 59, 3599, False))),
        (state(count=(59, 59, 7, False)), state(count=(0, 59, 59, False))),
        (state(count=(59, 0, 7, False)), state(count=(0, 0, 0, False))),
        (state(count=(3, 20, 7, True)),) * 2,
    ],
    "csecond": [
        (state(count=(0, 0, 0, False)), state(count=(0, 1, 1, False))),
        (state(count=(59, 58, 7, False)), state(count=(59, 59, 3599, False))),
        (state(count=(59, 59, 7, False)), state(count=(59, 0, 3540, False))),
        (state(count=(0, 59, 7, False)), state(count=(0, 0, 0, False))),
        (state(count=(3, 20, 7, True)),) * 2,
    ],
    "full": [
        (state(count=(3, 20, 7, False)), state(count=(3, 20, 200, False))),
        (state(count=(59, 59, 0, False)), state(count=(59, 59, 3599, False))),
        (state(count=(0, 0, 50, False)), state(count=(0, 0, 0, False))),
        (state(count=(3, 20, 7, True)),) * 2,
    ],
    "count": [
        (state(count=(3, 20, 7, False)), state(count=(3, 20, 7, True))),
        (state(count=(3, 20, 7, True)), state(count=(3, 20, 7, False))),
        (state(count=(3, 20, 0, False)),) * 2,
        (state(count=(0, 0, 3599, False)), state(count=(0, 0, 3599, True))),
    ],
}


def a_tick_ahead(at):
    """The state that a tick alone makes into this one."""
    clock, laps, count, ring = at[1], at[3], at[4], at[5]
    return with_parts(at, (
        (CLOCK, (clock - 1) % 86400),
        (LAPS, (laps[0] + (-1 if laps[1] else 0),) + laps[1:]),
        (COUNT, count[:2] + (count[2] + (1 if count[3] else 0),) + count[3:]),
        (RING, ring + 1 if ring > 0 else 0),
    ))


class Deeds(unittest.TestCase):
    def test_each_deed_has_cases(self):
        self.assertEqual(tuple(DEED_CASES), DEEDS)

    def test_by_a_short_press(self):
        for deed, cases in DEED_CASES.items():
            for ahead, asked in cases:
                for button in "abc":
                    with self.subTest(deed=deed, ahead=ahead):
                        first = with_parts(ahead, ((MODE, 0), (HELD, (button, 1)), (IDLE, 0)))
                        last = with_parts(asked, ((MODE, 1), (HELD, None), (IDLE, 0)))
                        same(self, gone(deed_book(deed), first, ("up", button)), last)

    def test_by_a_long_press(self):
        for deed, cases in DEED_CASES.items():
            for ahead, asked in cases:
                for button in "abc":
                    with self.subTest(deed=deed, ahead=ahead):
                        first = with_parts(a_tick_ahead(ahead), ((MODE, 0), (HELD, (button, 2)), (IDLE, 0)))
                        last = with_parts(asked, ((MODE, 1), (HELD, (button, None)), (IDLE, 0)))
                        same(self, gone(deed_book(deed), first, ("ticks", 1)), last)

    def test_the_deed_is_that_of_the_mode_ahead(self):
        modes = (mode(rows=(("hour", 1),) * 6), mode(rows=(("minute", 1),) * 6))
        behind = gone(book(modes=modes), state(held=("a", 0)), ("up", "a"))
        same(self, behind, state(1, 3600))
        behind = gone(book(modes=modes), put(behind, HELD, ("a", 0)), ("up", "a"))
        same(self, behind, state(1, 3660))

    def test_a_mode_may_lead_to_itself(self):
        at = book(modes=(mode(), mode(rows=(("run", 1),) * 6)))
        same(self, gone(at, state(1, held=("b", 0)), ("up", "b")), state(1, laps=(0, True, ())))

    def test_setting_the_clock_does_not_ring(self):
        for deed, clock in (("hour", 23 * 3600), ("minute", 59 * 60), ("zero", 30)):
            behind = gone(deed_book(deed), state(clock=clock, alarm=(0, 0, True), held=("a", 0)), ("up", "a"))
            same(self, behind, state(1, 0, (0, 0, True)))


class TheClockGoesOn(unittest.TestCase):
    def test_whatever_is_pressed_but_for_what_sets_it(self):
        others = [deed for deed in DEEDS if deed not in ("hour", "minute", "zero")]
        for seed in range(150):
            chance = Chance(seed)
            made = chance.book()
            modes = tuple(
                (face, stays, tuple((chance.pick(others), following) for deed, following in rows))
                for face, stays, rows in made[2]
            )
            at = (made[0], made[1], modes)
            ahead = behind = chance.state(at)
            row = chance.row()
            for event in row:
                behind = gone(at, behind, event)
            went = sum(what for kind, what in row if kind == "ticks")
            self.assertEqual(behind[1], (ahead[1] + went) % 86400)


class Shown(unittest.TestCase):
    def assert_shown(self, face, asked, at):
        book_of_faces = book(modes=tuple(mode(each) for each in FACES))
        number = FACES.index(face)
        for ring in (0, 1, 10):
            told = shown(book_of_faces, with_parts(at, ((MODE, number), (RING, ring))))
            same(self, told, (face, asked, ring > 0))

    def test_time(self):
        for clock, asked in (
            (0, "00:00:00"), (9, "00:00:09"), (60, "00:01:00"), (3599, "00:59:59"), (3600, "01:00:00"),
            (33002, "09:10:02"), (45296, "12:34:56"), (86399, "23:59:59"),
        ):
            self.assert_shown("time", asked, put(ORDINARY_STATE, CLOCK, clock))

    def test_alarm(self):
        for hour, minute, asked in ((0, 0, "00:00"), (6, 5, "06:05"), (10, 10, "10:10"), (23, 59, "23:59")):
            self.assert_shown("alarm", asked, put(ORDINARY_STATE, ALARM, (hour, minute, False)))
            self.assert_shown("alarm", asked + " on", put(ORDINARY_STATE, ALARM, (hour, minute, True)))

    def test_laps(self):
        for many, asked in (
            (0, "0:00"), (7, "0:07"), (59, "0:59"), (60, "1:00"), (599, "9:59"), (600, "10:00"), (3599, "59:59"),
            (3600, "60:00"), (6000, "100:00"), (86400 * 1000 + 61, "1440001:01"),
            (60 * 10 ** 30, "1" + "0" * 30 + ":00"),
        ):
            for runs in (True, False):
                self.assert_shown("laps", asked, put(ORDINARY_STATE, LAPS, (many, runs, ())))

    def test_laps_that_are_kept(self):
        for kept in range(5):
            asked = "1:15" + ("", " +1", " +2", " +3", " +4")[kept]
            self.assert_shown("laps", asked, put(ORDINARY_STATE, LAPS, (75, True, (0, 5, 5, 70)[:kept])))

    def test_more_figures_than_python_writes_by_itself(self):
        minutes = "9" * 5000
        many = 60 * (10 ** 5000 - 1) + 59
        told = shown(book(modes=(mode("laps"),)), state(laps=(many, False, ())))
        self.assertEqual(told, ("laps", minutes + ":59", False))

    def test_figures_with_noughts_within(self):
        for minutes in (10 ** 18 - 1, 10 ** 18, 10 ** 18 + 7, 10 ** 36, 10 ** 36 + 10 ** 17, 10 ** 40 + 5):
            self.assert_shown("laps", str(minutes) + ":00", put(ORDINARY_STATE, LAPS, (60 * minutes, True, ())))

    def test_count(self):
        for left, asked in ((0, "0:00"), (1, "0:01"), (60, "1:00"), (200, "3:20"), (600, "10:00"), (3599, "59:59")):
            for runs in (left > 0, False):
                self.assert_shown("count", asked, put(ORDINARY_STATE, COUNT, (7, 7, left, runs)))

    def test_the_face_is_that_of_the_mode(self):
        self.assertEqual([shown(ORDINARY_BOOK, put(ORDINARY_STATE, MODE, number))[0] for number in range(3)],
                         ["time", "alarm", "count"])
        same(self, shown(ORDINARY_BOOK, begun(ORDINARY_BOOK)), ("time", "00:00:00", False))


class AskedAgain(unittest.TestCase):
    def test_what_is_handed_in_stays_and_the_same_is_told(self):
        for chance, at, ahead in by_chance(range(100)):
            event = chance.event()
            handed_in = copy.deepcopy((at, ahead, event))
            same(self, gone(at, ahead, event), gone(at, ahead, event))
            same(self, shown(at, ahead), shown(at, ahead))
            same(self, (at, ahead, event), handed_in)

    def test_states_lead_to_states_as_the_slow_watch_tells(self):
        for chance, at, behind in by_chance(range(300)):
            slow = SlowWatch(at, behind)
            for event in chance.row():
                behind = gone(at, behind, event)
                self.assertTrue(is_state(at, behind))
                same(self, behind, slow.go((event,)).state())


if __name__ == "__main__":
    unittest.main()
