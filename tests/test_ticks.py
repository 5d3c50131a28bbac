"""Ticks: each step of one in its order, and many at once: [2.2], [0.2] (b) and (c), [0.3]."""

import time
import unittest

from handwatch.going import gone
from samples import ORDINARY_STATE, SlowWatch, book, by_chance, deed_book, mode, put, same, state

DAY = 86400
THOUSAND_DAYS = 1000 * DAY
SECONDS = 10

STILL = book(hold=3, back=0, modes=(mode("time", True),))

# Mode 1 goes back, mode 2 stays; each press in them sets something that ticks lean on.
SETTING_ROWS = (("none", 2), ("none", 1), ("none", 0), ("hour", 1), ("alarm", 2), ("count", 0))
SETTING_MODES = (
    mode("time", False, SETTING_ROWS),
    mode("alarm", False, SETTING_ROWS),
    mode("count", True, SETTING_ROWS),
)


def ticked(at, ahead, many=1):
    return gone(at, ahead, ("ticks", many))


class TickCase(unittest.TestCase):
    def assert_tick(self, ahead, asked, at=STILL):
        same(self, ticked(at, ahead), asked)


class Clock(TickCase):
    def test_it_goes_on_by_1(self):
        for clock in (0, 58, 59, 60, 3599, 45296, 86398):
            self.assert_tick(state(clock=clock), state(clock=clock + 1))

    def test_behind_86399_comes_0(self):
        self.assert_tick(state(clock=86399), state(clock=0))


class Ring(TickCase):
    def test_it_goes_down_to_0(self):
        for ring in range(1, 11):
            self.assert_tick(state(ring=ring), state(clock=1, ring=ring - 1))

    def test_it_stays_at_0(self):
        self.assert_tick(state(), state(clock=1))

    def test_many_ticks_of_it(self):
        for ring in range(11):
            for many in range(1, 13):
                same(self, ticked(STILL, state(ring=ring), many), state(clock=many, ring=max(0, ring - many)))


class Laps(TickCase):
    def test_laps_that_runs_has_1_more(self):
        for many in (0, 59, 3599, 10 ** 40):
            self.assert_tick(state(laps=(many, True, (3, 4))), state(clock=1, laps=(many + 1, True, (3, 4))))

    def test_laps_that_does_not_run(self):
        self.assert_tick(state(laps=(75, False, (3, 4))), state(clock=1, laps=(75, False, (3, 4))))


class Count(TickCase):
    def test_count_that_runs_has_1_left_less(self):
        for left in (2, 3, 60, 3599):
            self.assert_tick(state(count=(3, 20, left, True)), state(clock=1, count=(3, 20, left - 1, True)))

    def test_at_0_it_runs_no_more_and_rings(self):
        self.assert_tick(state(count=(3, 20, 1, True)), state(clock=1, count=(3, 20, 0, False), ring=10))

    def test_at_0_it_rings_anew_while_it_rings(self):
        for ring in range(11):
            self.assert_tick(state(count=(0, 5, 1, True), ring=ring), state(clock=1, count=(0, 5, 0, False), ring=10))

    def test_count_that_does_not_run(self):
        for left in (0, 1, 2, 3599):
            self.assert_tick(state(count=(3, 20, left, False)), state(clock=1, count=(3, 20, left, False)))


class Alarm(TickCase):
    def test_at_its_hour_and_minute_second_0(self):
        for hour, minute in ((0, 1), (6, 30), (23, 0), (23, 59)):
            second = 3600 * hour + 60 * minute
            for ring in range(11):
                ahead = state(clock=second - 1, alarm=(hour, minute, True), ring=ring)
                self.assert_tick(ahead, state(clock=second, alarm=(hour, minute, True), ring=10))

    def test_at_midnight(self):
        self.assert_tick(state(clock=86399, alarm=(0, 0, True)), state(clock=0, alarm=(0, 0, True), ring=10))

    def test_not_at_another_second_minute_or_hour(self):
        second = 6 * 3600 + 30 * 60
        for clock in (
            second - 2, second, second + 1, second + 58, second + 59, second - 61, second + 3599, second - 3601,
            second + 12 * 3600 - 1, 86399,
        ):
            ahead = state(clock=clock, alarm=(6, 30, True))
            self.assert_tick(ahead, put(ahead, (1,), (clock + 1) % DAY))

    def test_off(self):
        ahead = state(clock=6 * 3600 + 1799, alarm=(6, 30, False), ring=3)
        self.assert_tick(ahead, state(clock=6 * 3600 + 1800, alarm=(6, 30, False), ring=2))

    def test_with_count_at_one_tick(self):
        ahead = state(clock=86399, alarm=(0, 0, True), count=(1, 0, 1, True), ring=4)
        self.assert_tick(ahead, state(alarm=(0, 0, True), count=(1, 0, 0, False), ring=10))


class Held(TickCase):
    def test_1_tick_more(self):
        for hold in range(2, 10):
            for ticks in range(hold - 1):
                at = deed_book("run", hold=hold)
                self.assert_tick(state(held=("b", ticks)), state(clock=1, held=("b", ticks + 1)), at)

    def test_with_hold_ticks_the_long_press_is_done(self):
        for hold in range(1, 10):
            for button in "abc":
                at = deed_book("ahour", hold=hold)
                asked = state(1, 1, (1, 0, False), held=(button, None))
                self.assert_tick(state(held=(button, hold - 1)), asked, at)

    def test_held_on_behind_that_nothing_more_is_done(self):
        for hold in (1, 3, 9):
            at = deed_book("ahour", hold=hold)
            for many in (1, hold, hold + 1, 5 * hold, 1000):
                asked = state(1, many, (1, 0, False), held=("a", None))
                same(self, ticked(at, state(1, 0, (1, 0, False), held=("a", None)), many), asked)
                whole = state(1, hold + many, (1, 0, False), held=("a", None))
                same(self, ticked(at, state(held=("a", 0)), hold + many), whole)

    def test_idle_waits_while_a_button_is_held(self):
        at = book(hold=9, back=5, modes=SETTING_MODES)
        for held in (("a", 0), ("a", None)):
            behind = ticked(at, state(1, held=held, idle=4), 6)
            self.assertEqual((behind[0], behind[7]), (1, 4))

    def test_the_mode_that_a_long_press_leads_to_does_not_go_back_while_held(self):
        at = book(hold=2, back=1, modes=(mode("time", True, (("none", 1),) * 6), mode("alarm")))
        same(self, ticked(at, state(held=("a", 0)), 500), state(1, 500, held=("a", None)))


class LongDeedsAtTheirTick(TickCase):
    """The counters go on ahead of the press at the tick at which it gets long."""

    def assert_long(self, deed, ahead, asked):
        for hold in (1, 2, 9):
            first = put(ahead, (6,), ("c", hold - 1))
            self.assert_tick(first, put(put(asked, (6,), ("c", None)), (0,), 1), deed_book(deed, hold=hold))

    def test_the_clock_is_set_behind_its_tick(self):
        self.assert_long("zero", state(clock=59), state(clock=60))
        self.assert_long("zero", state(clock=58), state(clock=0))
        self.assert_long("hour", state(clock=86399), state(clock=3600))
        self.assert_long("minute", state(clock=3599), state(clock=3660))

    def test_the_alarm_rings_ahead_of_its_being_changed(self):
        self.assert_long("alarm", state(clock=86399, alarm=(0, 0, True)), state(alarm=(0, 0, False), ring=10))
        self.assert_long("ahour", state(clock=86399, alarm=(0, 0, True)), state(alarm=(1, 0, True), ring=10))

    def test_the_alarm_that_is_set_to_this_very_second_does_not_ring(self):
        self.assert_long("alarm", state(clock=86399), state(alarm=(0, 0, True)))
        self.assert_long("aminute", state(clock=59, alarm=(0, 0, True)), state(clock=60, alarm=(0, 1, True)))
        self.assert_long("hour", state(clock=86399, alarm=(1, 0, True)), state(clock=3600, alarm=(1, 0, True)))

    def test_laps_go_on_ahead_of_their_being_kept_or_stopped(self):
        self.assert_long("lap", state(laps=(7, True, (2,))), state(clock=1, laps=(8, True, (2, 8))))
        self.assert_long("run", state(laps=(7, True, ())), state(clock=1, laps=(8, False, ())))
        self.assert_long("run", state(laps=(7, False, ())), state(clock=1, laps=(7, True, ())))

    def test_count_ends_ahead_of_its_being_set_or_stopped(self):
        ended = state(clock=1, count=(0, 7, 0, False), ring=10)
        self.assert_long("count", state(count=(0, 7, 1, True)), ended)
        self.assert_long("full", state(count=(0, 7, 1, True)), put(ended, (4,), (0, 7, 7, False)))
        self.assert_long("cminute", state(count=(0, 7, 1, True)), put(ended, (4,), (1, 7, 67, False)))
        self.assert_long("count", state(count=(0, 7, 2, True)), state(clock=1, count=(0, 7, 1, False)))
        self.assert_long("count", state(count=(0, 7, 1, False)), state(clock=1, count=(0, 7, 1, True)))


class Idle(TickCase):
    def test_1_more(self):
        for back in (2, 5, 60):
            at = book(back=back, modes=SETTING_MODES)
            for number in range(3):
                for idle in (0, back - 2):
                    self.assert_tick(state(number, idle=idle), state(number, 1, idle=idle + 1), at)

    def test_at_back_the_mode_that_does_not_stay_is_0(self):
        for back in range(1, 61):
            at = book(back=back, modes=SETTING_MODES)
            self.assert_tick(state(1, idle=back - 1), state(0, 1), at)
            self.assert_tick(state(2, idle=back - 1), state(2, 1), at)
            self.assert_tick(state(0, idle=back - 1), state(0, 1), at)

    def test_without_back_idle_is_0(self):
        at = book(back=0, modes=SETTING_MODES)
        for number in range(3):
            for many in (1, 60, 61, 100000):
                same(self, ticked(at, state(number), many), state(number, many % DAY))

    def test_back_1(self):
        at = book(back=1, modes=SETTING_MODES)
        for many in (1, 2, 3):
            same(self, ticked(at, state(1), many), state(0, many))
            same(self, ticked(at, state(2), many), state(2, many))

    def test_it_goes_round(self):
        at = book(back=7, modes=SETTING_MODES)
        for many in range(1, 50):
            same(self, ticked(at, state(2, idle=3), many), state(2, many, idle=(3 + many) % 7))
            number = 1 if many < 4 else 0
            same(self, ticked(at, state(1, idle=3), many), state(number, many, idle=(3 + many) % 7))


class ManyAtOnce(unittest.TestCase):
    def test_as_one_by_one(self):
        for chance, at, ahead in by_chance(range(400)):
            slow = SlowWatch(at, ahead)
            for many in range(1, 100):
                slow.tick()
                same(self, ticked(at, ahead, many), slow.state())

    def test_one_by_one_are_as_many(self):
        for chance, at, ahead in by_chance(range(100)):
            behind = ahead
            for tick in range(75):
                behind = ticked(at, behind)
            same(self, ticked(at, ahead, 75), behind)

    def test_in_any_parts(self):
        for chance, at, ahead in by_chance(range(300)):
            first = chance.pick((1, 2, 9, 10, 11, 59, 3600, DAY - 1, DAY, DAY + 1, 12345678))
            then = chance.pick((1, 3, 10, 60, 86390, DAY, 10 ** 7, 10 ** 20))
            same(self, ticked(at, ticked(at, ahead, first), then), ticked(at, ahead, first + then))

    def test_days_as_one_by_one(self):
        for chance, at, ahead in by_chance(range(12)):
            slow = SlowWatch(at, ahead)
            for many in (DAY - 1, 1, 1, DAY, 20):
                slow.go((("ticks", many),))
                same(self, ticked(at, ahead, slow.went), slow.state())

    def test_ticks_alone_change_no_mode_but_by_a_long_press_or_going_back(self):
        for chance, at, ahead in by_chance(range(200)):
            stays = at[2][ahead[0]][1]
            if (ahead[6] is not None and ahead[6][1] is None) or (ahead[6] is None and (stays or at[1] == 0)):
                self.assertEqual(ticked(at, ahead, chance.number(1, 10 ** 6))[0], ahead[0])


class SomewhatBeyondBounds(unittest.TestCase):
    """Nothing is refused for it."""

    def test_books(self):
        nine = tuple(mode("time", False, (("run", (number + 1) % 9),) * 6) for number in range(9))
        at = book(hold=12, back=70, modes=nine)
        for ahead in (state(8, idle=65), state(8, held=("a", 11)), state(3, held=("a", 0))):
            for many in (1, 5, 12, 100):
                same(self, ticked(at, ahead, many), SlowWatch(at, ahead).go((("ticks", many),)).state())

    def test_states(self):
        at = book(hold=2, back=5, modes=SETTING_MODES)
        ahead = state(2, laps=(3, True, (1, 2, 3, 4, 5)), count=(0, 0, 3700, True), ring=12)
        for many in (1, 11, 3700, 3712):
            same(self, ticked(at, ahead, many), SlowWatch(at, ahead).go((("ticks", many),)).state())

    def test_what_is_overdue_comes_with_the_next_tick(self):
        at = book(hold=2, back=5, modes=SETTING_MODES)
        for over in (0, 1, 7):
            self.assertEqual(ticked(at, state(1, idle=5 + over)), state(0, 1))
            self.assertEqual(ticked(at, state(1, held=("b", 2 + over))), state(2, 1, (0, 0, True), held=("b", None)))


class ThousandDays(unittest.TestCase):
    def setUp(self):
        self.began = time.monotonic()

    def tearDown(self):
        self.assertLess(time.monotonic() - self.began, SECONDS)

    def test_nothing_but_the_clock(self):
        same(self, ticked(STILL, state(clock=5), THOUSAND_DAYS + 7), state(clock=12))

    def test_the_alarm_on_and_off(self):
        for behind in range(12):
            ahead = state(clock=100, alarm=(0, 1, True))
            many = THOUSAND_DAYS - 40 + behind
            asked = state(clock=60 + behind, alarm=(0, 1, True), ring=max(0, 10 - behind))
            same(self, ticked(STILL, ahead, many), asked)
            off = put(ahead, (2, 2), False)
            same(self, ticked(STILL, off, many), state(clock=60 + behind, alarm=(0, 1, False)))

    def test_ahead_of_the_alarm_it_rings_no_more(self):
        ahead = state(clock=100, alarm=(0, 1, True), ring=10)
        same(self, ticked(STILL, ahead, THOUSAND_DAYS - 41), state(clock=59, alarm=(0, 1, True)))

    def test_laps_and_count_that_run(self):
        ahead = state(laps=(5, True, (1,)), count=(3, 20, 200, True))
        asked = state(laps=(5 + THOUSAND_DAYS, True, (1,)), count=(3, 20, 0, False))
        same(self, ticked(STILL, ahead, THOUSAND_DAYS), asked)

    def test_a_button_held_that_sets_the_clock(self):
        at = deed_book("hour", hold=3)
        ahead = state(alarm=(12, 0, True), held=("a", 0))
        many = THOUSAND_DAYS + 11 * 3600 + 2
        same(self, ticked(at, ahead, many), state(1, 43202, (12, 0, True), ring=8, held=("a", None)))

    def test_a_button_held_that_turns_the_alarm_on(self):
        at = deed_book("alarm", hold=9)
        asked = state(1, 0, (0, 0, True), ring=10, held=("b", None))
        same(self, ticked(at, state(held=("b", 4)), THOUSAND_DAYS), asked)

    def test_a_button_held_that_starts_count(self):
        at = deed_book("count", hold=9)
        ahead = state(count=(50, 0, 3000, False), held=("b", 4))
        asked = state(1, 3005, count=(50, 0, 0, False), ring=10, held=("b", None))
        same(self, ticked(at, ahead, 3005), asked)
        asked = state(1, 0, count=(50, 0, 0, False), held=("b", None))
        same(self, ticked(at, ahead, THOUSAND_DAYS), asked)

    def test_going_back(self):
        at = book(back=7, modes=SETTING_MODES)
        for number, asked in ((0, 0), (1, 0), (2, 2)):
            same(self, ticked(at, state(number, idle=3), THOUSAND_DAYS), state(asked, idle=(3 + THOUSAND_DAYS) % 7))

    def test_many_more_days(self):
        for days in (10 ** 4, 10 ** 5):
            behind = ticked(book(back=60), put(ORDINARY_STATE, (6,), None), days * DAY)
            self.assertEqual(behind[1:4], (45296, (6, 30, True), (75 + days * DAY, True, (10, 42))))


if __name__ == "__main__":
    unittest.main()
