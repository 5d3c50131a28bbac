"""Rows of events, presses, what is seen and told: [3.1], [0.2] (b), [0.3]."""

import copy
import time
import unittest

from handwatch.going import gone, shown
from handwatch.rows import after, pressed, seen, story
from handwatch.states import begun
from samples import ORDINARY_BOOK, ORDINARY_STATE, SlowWatch, book, by_chance, deed_book, mode, put, same, state

DAY = 86400
SECONDS = 10


def ticks(many):
    return (("ticks", many),)


def short(button):
    return (("down", button), ("up", button))


def long(button, hold):
    return (("down", button), ("ticks", hold), ("up", button))


def plain_modes(deed, stays=False, face="time"):
    """Two modes: a leads on, A does the deed, the other presses lead to where they are."""
    modes = []
    for here in range(2):
        still = ("none", here)
        modes.append(mode(face, stays, (("none", 1 - here), still, still, (deed, here), still, still)))
    return tuple(modes)


class After(unittest.TestCase):
    def test_no_events(self):
        same(self, after(ORDINARY_BOOK, ORDINARY_STATE, ()), ORDINARY_STATE)

    def test_one_event_is_as_gone(self):
        for event in (("down", "a"), ("up", "b"), ("ticks", 5)):
            same(self, after(ORDINARY_BOOK, ORDINARY_STATE, (event,)), gone(ORDINARY_BOOK, ORDINARY_STATE, event))

    def test_all_events_in_order(self):
        row = short("a") + short("b") + ticks(2) + long("a", 3) + short("c")
        asked = state(1, 5, (1, 1, True))
        same(self, after(ORDINARY_BOOK, begun(ORDINARY_BOOK), row), asked)

    def test_as_the_slow_watch_tells(self):
        for chance, at, ahead in by_chance(range(1000, 1300)):
            row = chance.row(30)
            same(self, after(at, ahead, row), SlowWatch(at, ahead).go(row).state())

    def test_a_row_in_parts_is_as_the_whole(self):
        for chance, at, ahead in by_chance(range(200)):
            row = chance.row()
            for cut in range(len(row) + 1):
                same(self, after(at, after(at, ahead, row[:cut]), row[cut:]), after(at, ahead, row))

    def test_many_events(self):
        row = short("b") * 5000 + ticks(1) * 5000
        same(self, after(ORDINARY_BOOK, state(), row), state(0, 5000 % 24 * 3600 + 5000, idle=5000 % 20))


class Pressed(unittest.TestCase):
    def test_no_presses(self):
        same(self, pressed(ORDINARY_BOOK, ORDINARY_STATE, ""), ORDINARY_STATE)

    def test_short_ones(self):
        same(self, pressed(ORDINARY_BOOK, state(clock=5), "b"), state(clock=3605))
        same(self, pressed(ORDINARY_BOOK, state(clock=5), "bcc"), state(clock=3725))
        same(self, pressed(ORDINARY_BOOK, state(clock=5), "abbc"), state(1, 5, (2, 1, False)))

    def test_long_ones_at_each_hold(self):
        for hold in range(1, 10):
            at = (hold, 20, ORDINARY_BOOK[2])
            same(self, pressed(at, state(), "A"), state(2, hold))
            same(self, pressed(at, state(clock=100), "B"), state(0, (100 + hold) // 60 * 60))
            same(self, pressed(at, state(), "aA"), state(1, hold, (0, 0, True)))
            same(self, pressed(at, state(), "aAAc"), state(1, 2 * hold, (0, 1, False)))
            same(self, pressed(at, state(), "AbccB"), state(2, 2 * hold, count=(1, 2, 62, True)))

    def test_each_press_is_its_own(self):
        rows = (("hour", 1), ("minute", 2), ("zero", 3), ("ahour", 4), ("aminute", 5), ("alarm", 6))
        at = book(hold=1, modes=(mode("time", False, rows),) + (mode("laps"),) * 6)
        for number, press in enumerate("abcABC"):
            self.assertEqual(pressed(at, state(), press)[0], number + 1)

    def test_as_their_events(self):
        for chance, at, ahead in by_chance(range(200)):
            presses = "".join(chance.pick("abcABC") for number in range(chance.number(0, 8)))
            row = ()
            for press in presses:
                row += short(press) if press in "abc" else long(press.lower(), at[0])
            same(self, pressed(at, ahead, presses), after(at, ahead, row))
            same(self, pressed(at, ahead, presses), SlowWatch(at, ahead).go(row).state())

    def test_while_it_rings_the_first_stops_it(self):
        same(self, pressed(ORDINARY_BOOK, state(ring=7), "bb"), state(clock=3600))
        same(self, pressed(ORDINARY_BOOK, state(ring=7), "Ab"), state(clock=3603))

    def test_while_another_is_held(self):
        ahead = state(held=("c", None))
        same(self, pressed(ORDINARY_BOOK, ahead, "abB"), put(ahead, (1,), 3))


class Seen(unittest.TestCase):
    def test_no_events(self):
        same(self, seen(ORDINARY_BOOK, ()), ())

    def test_each_event(self):
        row = (("down", "b"), ("up", "b"), ("ticks", 61), ("down", "a"), ("up", "a"), ("up", "a"), ("ticks", DAY))
        asked = (
            ("time", "00:00:00", False), ("time", "01:00:00", False), ("time", "01:01:01", False),
            ("time", "01:01:01", False), ("alarm", "00:00", False), ("alarm", "00:00", False),
            ("time", "01:01:01", False),
        )
        same(self, seen(ORDINARY_BOOK, row), asked)

    def test_the_ringing(self):
        at = deed_book("alarm", hold=1)
        row = long("a", 1) + ticks(DAY - 2) + ticks(1) + ticks(9) + ticks(1)
        told = seen(at, row)
        self.assertEqual([sight[2] for sight in told], [False, False, False, False, True, True, False])
        self.assertEqual({sight[:2] for sight in told[1:]}, {("laps", "0:00")})

    def test_as_shown_behind_each(self):
        for chance, at, ahead in by_chance(range(100)):
            row = chance.row()
            asked = tuple(shown(at, after(at, begun(at), row[:cut + 1])) for cut in range(len(row)))
            same(self, seen(at, row), asked)


class Story(unittest.TestCase):
    def assert_story(self, at, row, asked):
        same(self, story(at, row), asked)

    def test_no_events(self):
        self.assert_story(ORDINARY_BOOK, (), ())

    def test_short_presses(self):
        row = short("a") + ticks(4) + short("b") + short("c") + (("down", "a"), ("ticks", 2), ("up", "a"))
        self.assert_story(ORDINARY_BOOK, row, ((0, "a"), (4, "b"), (4, "c"), (6, "a")))

    def test_long_presses_at_the_tick_at_which_they_get_long(self):
        for hold in range(1, 10):
            at = (hold, 0, ORDINARY_BOOK[2])
            self.assert_story(at, long("a", hold), ((hold, "A"),))
            row = ticks(5) + long("b", hold + 30) + long("c", hold)
            self.assert_story(at, row, ((5 + hold, "B"), (hold + 35 + hold, "C")))
            self.assert_story(at, (("down", "c"), ("ticks", hold)), ((hold, "C"),))
            if hold > 1:
                self.assert_story(at, (("down", "c"), ("ticks", hold - 1)), ())
                self.assert_story(at, long("c", hold - 1), ((hold - 1, "c"),))

    def test_nothing_of_buttons_that_do_no_press(self):
        self.assert_story(ORDINARY_BOOK, (("down", "a"), ("down", "b"), ("up", "b"), ("up", "c")), ())
        self.assert_story(ORDINARY_BOOK, (("up", "a"), ("up", "b"), ("down", "c")), ())
        row = (("down", "a"), ("down", "b"), ("up", "a"), ("up", "b"))
        self.assert_story(ORDINARY_BOOK, row, ((0, "a"),))

    def test_a_press_without_a_deed_is_told(self):
        self.assert_story(book(modes=(mode(),)), short("a") + long("b", 3), ((0, "a"), (3, "B")))

    def test_rings_of_the_alarm(self):
        at = deed_book("alarm", hold=1)
        row = short("a") + ticks(3 * DAY + 5)
        self.assert_story(at, row, ((0, "a"), (DAY, "ring"), (2 * DAY, "ring"), (3 * DAY, "ring")))
        cut = short("a") + ticks(DAY - 1) + ticks(1) + ticks(DAY) + ticks(DAY + 5)
        self.assert_story(at, cut, ((0, "a"), (DAY, "ring"), (2 * DAY, "ring"), (3 * DAY, "ring")))

    def test_a_ring_of_count(self):
        at = book(hold=2, back=0, modes=(mode("count", True, (("csecond", 0), ("count", 0)) + (("none", 0),) * 4),))
        row = short("a") * 3 + short("b") + ticks(100)
        self.assert_story(at, row, ((0, "a"), (0, "a"), (0, "a"), (0, "b"), (3, "ring")))

    def test_both_rings_at_one_tick_are_told_once(self):
        rows = (("csecond", 0), ("count", 0), ("alarm", 0), ("none", 0), ("none", 0), ("none", 0))
        at = book(hold=2, back=0, modes=(mode("count", True, rows),))
        row = short("c") + ticks(DAY - 2) + short("a") * 2 + short("b") + ticks(2)
        asked = ((0, "c"), (DAY - 2, "a"), (DAY - 2, "a"), (DAY - 2, "b"), (DAY, "ring"))
        self.assert_story(at, row, asked)

    def test_nothing_of_a_press_that_only_stopped_the_ringing(self):
        at = book(hold=2, back=0, modes=(mode("count", True, (("csecond", 0), ("count", 0)) + (("none", 0),) * 4),))
        ahead = short("a") + short("b") + ticks(1)
        told = ((0, "a"), (0, "b"), (1, "ring"))
        self.assert_story(at, ahead + short("a"), told)
        self.assert_story(at, ahead + long("a", 20), told)
        self.assert_story(at, ahead + short("a") + short("c"), told + ((1, "c"),))
        self.assert_story(at, ahead + ticks(9) + short("a"), told)
        self.assert_story(at, ahead + ticks(10) + short("a"), told + ((11, "a"),))

    def test_going_back(self):
        for back in (1, 5, 60):
            at = book(back=back, modes=plain_modes("none"))
            self.assert_story(at, short("a") + ticks(back), ((0, "a"), (back, "back")))
            self.assert_story(at, short("a") + ticks(10 * DAY), ((0, "a"), (back, "back")))
            self.assert_story(at, ticks(back + 3) + short("a") + ticks(back), ((back + 3, "a"), (2 * back + 3, "back")))

    def test_nothing_of_idle_in_mode_0_or_one_that_stays(self):
        self.assert_story(book(back=5, modes=plain_modes("none")), ticks(1000), ())
        self.assert_story(book(back=5, modes=plain_modes("none", True)), short("a") + ticks(1000), ((0, "a"),))
        self.assert_story(book(back=0, modes=plain_modes("none")), short("a") + ticks(1000), ((0, "a"),))

    def test_idle_begins_anew_behind_a_button(self):
        at = book(back=5, modes=plain_modes("none"))
        row = short("a") + ticks(4) + short("b") + ticks(4) + (("down", "c"), ("ticks", 2), ("up", "c")) + ticks(6)
        self.assert_story(at, row, ((0, "a"), (4, "b"), (10, "c"), (15, "back")))

    def test_the_ring_is_ahead_of_going_back_at_one_tick(self):
        at = book(back=5, modes=plain_modes("alarm"))
        row = (("down", "a"), ("ticks", 3), ("up", "a")) + ticks(DAY - 8) + short("a") + ticks(5)
        asked = ((3, "A"), (DAY - 5, "a"), (DAY, "ring"), (DAY, "back"))
        self.assert_story(at, row, asked)
        self.assert_story(at, row + ticks(DAY), asked + ((2 * DAY, "ring"),))
        self.assert_story(at, row[:-1] + ticks(DAY + 5), asked + ((2 * DAY, "ring"),))

    def test_the_ring_is_ahead_of_the_long_press_at_one_tick(self):
        at = deed_book("alarm", hold=3)
        one = put(at, (2, 1, 2), (("alarm", 1),) * 6)
        row = short("a") + ticks(DAY - 3) + long("b", DAY + 5)
        self.assert_story(one, row, ((0, "a"), (DAY, "ring"), (DAY, "B")))
        self.assert_story(at, row, ((0, "a"), (DAY, "ring"), (DAY, "B"), (2 * DAY, "ring")))

    def test_as_the_slow_watch_tells(self):
        for chance, at, ahead in by_chance(range(2000, 2500)):
            row = chance.row(40)
            self.assert_story(at, row, tuple(SlowWatch(at, begun(at)).go(row).told))

    def test_thousand_days(self):
        began = time.monotonic()
        at = book(hold=3, back=60, modes=plain_modes("alarm"))
        row = short("a") + long("a", 3) + ticks(1000 * DAY)
        asked = [(0, "a"), (3, "A"), (63, "back")] + [(day * DAY, "ring") for day in range(1, 1001)]
        self.assert_story(at, row, tuple(asked))
        self.assertLess(time.monotonic() - began, SECONDS)


class AskedAgain(unittest.TestCase):
    def test_what_is_handed_in_stays_and_the_same_is_told(self):
        for chance, at, ahead in by_chance(range(100)):
            row = chance.row()
            handed_in = copy.deepcopy((at, ahead, row))
            same(self, after(at, ahead, row), after(at, ahead, row))
            same(self, pressed(at, ahead, "aBcA"), pressed(at, ahead, "aBcA"))
            same(self, seen(at, row), seen(at, row))
            same(self, story(at, row), story(at, row))
            same(self, (at, ahead, row), handed_in)


if __name__ == "__main__":
    unittest.main()
