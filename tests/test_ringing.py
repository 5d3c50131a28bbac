"""When it rings: [4.1], [0.2] (d), [0.3]."""

import copy
import time
import unittest

from handwatch.going import gone
from handwatch.ringing import next_ring, rings
from samples import SlowWatch, book, by_chance, deed_book, mode, put, same, state

DAY = 86400
SECONDS = 10
STILL = book(hold=3, back=0, modes=(mode("time", True),))


class RingCase(unittest.TestCase):
    def assert_rings(self, at, ahead, asked):
        """Asked are all the rings of two days, and the first of them is the next one."""
        same(self, rings(at, ahead, 2 * DAY), asked)
        for many in sorted({1, 2, 1000, DAY} | {tick + more for tick in asked for more in (-1, 0, 1)} - {0}):
            same(self, rings(at, ahead, many), tuple(tick for tick in asked if tick <= many))
        same(self, next_ring(at, ahead), asked[0] if asked else None)


class OfTheAlarm(RingCase):
    def test_off(self):
        self.assert_rings(STILL, state(clock=86399), ())
        self.assert_rings(STILL, state(clock=86399, ring=10), ())

    def test_on(self):
        for clock, first in ((0, 43200), (5, 43195), (43199, 1), (43201, DAY - 1), (86399, 43201)):
            self.assert_rings(STILL, state(clock=clock, alarm=(12, 0, True)), (first, first + DAY))

    def test_at_its_own_second_it_rings_a_day_later(self):
        self.assert_rings(STILL, state(clock=43200, alarm=(12, 0, True)), (DAY, 2 * DAY))
        self.assert_rings(STILL, state(clock=0, alarm=(0, 0, True)), (DAY, 2 * DAY))

    def test_at_midnight(self):
        self.assert_rings(STILL, state(clock=86399, alarm=(0, 0, True)), (1, DAY + 1))
        self.assert_rings(STILL, state(clock=1, alarm=(0, 0, True)), (DAY - 1, 2 * DAY - 1))

    def test_while_it_rings_already(self):
        for ring in range(11):
            self.assert_rings(STILL, state(clock=86395, alarm=(0, 0, True), ring=ring), (5, DAY + 5))


class OfCount(RingCase):
    def test_that_runs(self):
        for left in (1, 2, 200, 3599):
            for ring in (0, 1, 10):
                self.assert_rings(STILL, state(count=(3, 20, left, True), ring=ring), (left,))

    def test_that_does_not_run(self):
        for left in (0, 1, 200):
            self.assert_rings(STILL, state(count=(3, 20, left, False)), ())


class OfBoth(RingCase):
    def test_one_behind_the_other(self):
        ahead = state(clock=86390, alarm=(0, 0, True), count=(0, 0, 7, True))
        self.assert_rings(STILL, ahead, (7, 10, DAY + 10))
        self.assert_rings(STILL, put(ahead, (4, 2), 13), (10, 13, DAY + 10))

    def test_at_one_tick(self):
        ahead = state(clock=86390, alarm=(0, 0, True), count=(0, 0, 10, True))
        self.assert_rings(STILL, ahead, (10, DAY + 10))


class WithAButtonHeld(RingCase):
    def test_that_turns_the_alarm_on_or_off(self):
        at = deed_book("alarm", hold=5)
        self.assert_rings(at, state(clock=86397, held=("a", 3)), (3, DAY + 3))
        self.assert_rings(at, state(clock=86398, held=("a", 3)), (DAY + 2,))
        self.assert_rings(at, state(clock=86398, alarm=(0, 0, True), held=("a", 3)), (2,))
        self.assert_rings(at, state(clock=86397, alarm=(0, 0, True), held=("a", 3)), ())
        self.assert_rings(at, state(clock=86399, alarm=(0, 0, True), held=("a", 3)), (1,))

    def test_that_sets_the_alarm(self):
        ahead = state(clock=0, alarm=(0, 0, True), held=("b", 0))
        self.assert_rings(deed_book("ahour", hold=5), ahead, (3600, DAY + 3600))
        self.assert_rings(deed_book("aminute", hold=5), ahead, (60, DAY + 60))

    def test_that_sets_the_clock(self):
        ahead = state(clock=43150, alarm=(12, 0, True), held=("b", 0))
        self.assert_rings(deed_book("hour", hold=5), ahead, (DAY + 50 - 3600, 2 * DAY + 50 - 3600))
        self.assert_rings(deed_book("minute", hold=5), ahead, (50 + 3540, DAY + 50 + 3540))
        self.assert_rings(deed_book("zero", hold=5), ahead, (65, DAY + 65))

    def test_that_starts_stops_or_sets_count(self):
        stands = state(count=(0, 30, 20, False), held=("c", 0))
        runs = state(count=(0, 30, 20, True), held=("c", 0))
        self.assert_rings(deed_book("count", hold=5), stands, (25,))
        self.assert_rings(deed_book("count", hold=5), runs, ())
        self.assert_rings(deed_book("count", hold=5), put(runs, (4, 2), 5), (5,))
        self.assert_rings(deed_book("count", hold=5), put(runs, (4, 2), 3), (3,))
        self.assert_rings(deed_book("full", hold=5), runs, (20,))
        self.assert_rings(deed_book("full", hold=5), stands, ())

    def test_that_does_nothing_for_a_ring(self):
        for deed in ("none", "run", "lap"):
            self.assert_rings(deed_book(deed), state(count=(0, 0, 20, True), held=("c", 0)), (20,))

    def test_that_is_done(self):
        self.assert_rings(deed_book("alarm"), state(held=("c", None)), ())
        self.assert_rings(deed_book("alarm"), state(alarm=(0, 1, True), held=("c", None)), (60, DAY + 60))

    def test_the_mode_whose_deed_it_is(self):
        at = put(deed_book("none"), (2, 1, 2), (("alarm", 1),) * 6)
        self.assert_rings(at, state(0, held=("c", 0)), ())
        self.assert_rings(at, state(1, held=("c", 0)), (DAY, 2 * DAY))


class GoingBack(RingCase):
    def test_it_changes_no_ring(self):
        at = book(back=5, modes=(mode(), mode()))
        ahead = state(1, alarm=(0, 1, True), count=(0, 0, 7, True))
        self.assert_rings(at, ahead, (7, 60, DAY + 60))
        self.assert_rings(at, put(ahead, (4, 2), 5), (5, 60, DAY + 60))
        self.assert_rings(at, put(ahead, (4, 2), 2), (2, 60, DAY + 60))
        self.assert_rings(at, state(1), ())


class AsOneByOne(unittest.TestCase):
    def test_rings_are_those_of_the_slow_watch(self):
        for chance, at, ahead in by_chance(range(500)):
            asked = SlowWatch(at, ahead).go((("ticks", 90),)).rings()
            for many in (1, 2, 10, 59, 90):
                same(self, rings(at, ahead, many), tuple(tick for tick in asked if tick <= many))

    def test_days_of_the_slow_watch(self):
        for chance, at, ahead in by_chance(range(12)):
            asked = SlowWatch(at, ahead).go((("ticks", 2 * DAY + 100),)).rings()
            same(self, rings(at, ahead, 2 * DAY + 100), asked)
            same(self, next_ring(at, ahead), asked[0] if asked else None)

    def test_what_is_told_to_ring_rings_just_then_and_not_ahead(self):
        for chance, at, made in by_chance(range(500)):
            ahead = put(made, (5,), 0)
            first = next_ring(at, ahead)
            if first is None:
                same(self, rings(at, ahead, 400 * DAY), ())
                self.assertEqual(gone(at, ahead, ("ticks", 12345678))[5], 0)
                continue
            self.assertEqual(rings(at, ahead, first), (first,))
            self.assertEqual(gone(at, ahead, ("ticks", first))[5], 10)
            for many in {1, first // 2, first - 10, first - 1}:
                if 0 < many < first:
                    self.assertEqual(gone(at, ahead, ("ticks", many))[5], 0)
                    self.assertEqual(rings(at, ahead, many), ())


class ThousandDays(unittest.TestCase):
    def test_all_rings_of_them(self):
        began = time.monotonic()
        ahead = state(clock=10, alarm=(0, 1, True), count=(0, 0, 3599, True), held=("a", 0))
        asked = (50, 3599) + tuple(50 + day * DAY for day in range(1, 5000))
        same(self, rings(deed_book("run"), ahead, 5000 * DAY), asked)
        same(self, rings(deed_book("run"), state(held=("a", 0)), 5000 * DAY), ())
        self.assertLess(time.monotonic() - began, SECONDS)


class AskedAgain(unittest.TestCase):
    def test_what_is_handed_in_stays_and_the_same_is_told(self):
        for chance, at, ahead in by_chance(range(100)):
            handed_in = copy.deepcopy((at, ahead))
            same(self, rings(at, ahead, 3 * DAY), rings(at, ahead, 3 * DAY))
            same(self, next_ring(at, ahead), next_ring(at, ahead))
            same(self, (at, ahead), handed_in)


if __name__ == "__main__":
    unittest.main()
