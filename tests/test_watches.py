"""A watch: [7.1], [0.2] (g), [0.3]."""

import copy
import time
import unittest

from handwatch.errors import NoDeed, NoText, WatchError
from handwatch.going import shown
from handwatch.ringing import rings
from handwatch.rows import after, story
from handwatch.states import begun
from handwatch.watches import Watch
from samples import ORDINARY_BOOK, Chance, SlowWatch, book, by_chance, mode, same, state

DAY = 86400
SECONDS = 10

# a sets count, b starts it, c turns the alarm on or off.
RINGING_BOOK = book(hold=3, back=0, modes=(
    mode("count", True, (("csecond", 0), ("count", 0), ("alarm", 0), ("cminute", 0), ("hour", 0), ("aminute", 0))),
))


def do(watch, row):
    for kind, what in row:
        {"down": watch.down, "up": watch.up, "ticks": watch.ticks}[kind](what)
    return watch


def press(watch, presses):
    for button in presses:
        watch.down(button)
        watch.up(button)
    return watch


def all_told(watch):
    return (watch.shown(), watch.state(), watch.rang(), watch.row())


def rings_of(at, row):
    """How many rings a row brings, by the watch that goes tick by tick."""
    return len(SlowWatch(at, begun(at)).go(row).rings())


class WatchCase(unittest.TestCase):
    def assert_told(self, watch, at, row, rang):
        behind = after(at, begun(at), row)
        same(self, all_told(watch), (shown(at, behind), behind, rang, row))


class Begun(WatchCase):
    def test_as_begun(self):
        for at in (ORDINARY_BOOK, RINGING_BOOK, book(modes=(mode(),))):
            watch = Watch(at)
            self.assert_told(watch, at, (), 0)
            same(self, watch.state(), begun(at))
        same(self, Watch(ORDINARY_BOOK).shown(), ("time", "00:00:00", False))


class Events(WatchCase):
    def test_down(self):
        watch = Watch(ORDINARY_BOOK)
        watch.down("b")
        same(self, all_told(watch), (("time", "00:00:00", False), state(held=("b", 0)), 0, (("down", "b"),)))

    def test_up(self):
        watch = Watch(ORDINARY_BOOK)
        watch.down("b")
        watch.up("b")
        row = (("down", "b"), ("up", "b"))
        same(self, all_told(watch), (("time", "01:00:00", False), state(clock=3600), 0, row))

    def test_ticks(self):
        watch = Watch(ORDINARY_BOOK)
        watch.ticks(61)
        same(self, all_told(watch), (("time", "00:01:01", False), state(clock=61, idle=1), 0, (("ticks", 61),)))

    def test_long_presses(self):
        watch = Watch(ORDINARY_BOOK)
        watch.down("a")
        watch.ticks(2)
        same(self, watch.state(), state(clock=2, held=("a", 2)))
        watch.ticks(1)
        same(self, watch.state(), state(2, 3, held=("a", None)))
        watch.up("a")
        same(self, all_told(watch), (
            ("count", "0:00", False), state(2, 3), 0, (("down", "a"), ("ticks", 2), ("ticks", 1), ("up", "a"))
        ))

    def test_events_that_change_nothing_are_in_the_row_too(self):
        watch = Watch(ORDINARY_BOOK)
        row = (("up", "a"), ("down", "a"), ("down", "b"), ("down", "a"), ("up", "c"), ("up", "b"))
        do(watch, row)
        same(self, watch.row(), row)
        same(self, watch.state(), state(held=("a", 0)))

    def test_none_is_told(self):
        watch = Watch(ORDINARY_BOOK)
        for told in (watch.down("a"), watch.down("b"), watch.up("b"), watch.up("a"), watch.ticks(1), watch.ticks(DAY)):
            self.assertIsNone(told)

    def test_behind_each_of_a_row(self):
        for chance, at, ahead in by_chance(range(150)):
            row = chance.row(20)
            watch = Watch(at)
            for cut in range(len(row)):
                do(watch, row[cut:cut + 1])
                self.assert_told(watch, at, row[:cut + 1], rings_of(at, row[:cut + 1]))


class Rang(WatchCase):
    def test_by_the_alarm(self):
        watch = press(Watch(RINGING_BOOK), "c")
        watch.ticks(DAY - 1)
        same(self, watch.rang(), 0)
        watch.ticks(1)
        same(self, watch.rang(), 1)
        watch.ticks(9)
        same(self, (watch.rang(), watch.shown()[2]), (1, True))
        watch.ticks(DAY)
        same(self, watch.rang(), 2)
        press(watch, "cc")
        watch.ticks(DAY)
        same(self, watch.rang(), 2)

    def test_by_count(self):
        watch = press(Watch(RINGING_BOOK), "aab")
        watch.ticks(1)
        same(self, watch.rang(), 0)
        watch.ticks(1)
        same(self, (watch.rang(), watch.shown()), (1, ("count", "0:00", True)))
        watch.ticks(5 * DAY)
        same(self, watch.rang(), 1)

    def test_by_both_at_one_tick(self):
        watch = press(Watch(RINGING_BOOK), "c")
        watch.ticks(DAY - 2)
        press(watch, "aab")
        watch.ticks(2)
        same(self, (watch.rang(), watch.shown()[2]), (1, True))
        watch.ticks(DAY)
        same(self, watch.rang(), 2)

    def test_by_both_one_behind_the_other(self):
        for ahead, rang in ((1, 2), (2, 1), (3, 2)):
            watch = press(Watch(RINGING_BOOK), "c")
            watch.ticks(DAY - ahead)
            press(watch, "aab")
            watch.ticks(3)
            same(self, watch.rang(), rang)

    def test_by_many_ticks_at_once_over_several_days(self):
        for days in (1, 2, 7, 1000, 10 ** 12):
            for more, rang in ((-1, days - 1), (0, days), (1, days), (DAY - 1, days)):
                watch = press(Watch(RINGING_BOOK), "c")
                watch.ticks(days * DAY + more)
                same(self, watch.rang(), rang)
                both = press(Watch(RINGING_BOOK), "caaab")
                both.ticks(days * DAY + more)
                same(self, both.rang(), rang + 1)

    def test_ringing_that_is_stopped_counts(self):
        watch = press(Watch(RINGING_BOOK), "ab")
        watch.ticks(1)
        press(watch, "a")
        same(self, (watch.rang(), watch.state()[5]), (1, 0))
        same(self, watch.state()[4], (0, 1, 0, False))

    def test_across_a_long_press(self):
        at = book(hold=3, back=0, modes=(mode("time", True, (("alarm", 0),) * 6),))
        watch = Watch(at)
        watch.down("a")
        watch.ticks(2 * DAY)
        same(self, watch.rang(), 2)
        watch.up("a")
        watch.down("a")
        watch.up("a")
        watch.down("b")
        watch.ticks(3 * DAY)
        same(self, watch.rang(), rings_of(at, watch.row()))
        off = press(Watch(at), "a")
        off.ticks(DAY - 3)
        off.down("b")
        off.ticks(3 * DAY)
        same(self, off.rang(), 1)

    def test_as_rings_and_story_tell(self):
        for chance, at, ahead in by_chance(range(200)):
            watch = Watch(at)
            rang = 0
            for event in chance.row(25):
                if event[0] == "ticks":
                    event = ("ticks", event[1] * chance.pick((1, 1, 1, 30000)))
                    rang += len(rings(at, watch.state(), event[1]))
                do(watch, (event,))
                same(self, watch.rang(), rang)
            self.assertEqual([what for ticks, what in story(at, watch.row())].count("ring"), rang)


class Undo(WatchCase):
    def test_each_kind_of_event(self):
        for row in ((("down", "a"),), (("up", "a"),), (("ticks", 5),), (("ticks", 10 * DAY),)):
            watch = do(Watch(ORDINARY_BOOK), row)
            self.assertIsNone(watch.undo())
            self.assert_told(watch, ORDINARY_BOOK, (), 0)

    def test_the_last_one_alone(self):
        watch = do(Watch(ORDINARY_BOOK), (("down", "b"), ("up", "b"), ("ticks", 5), ("ticks", 7)))
        watch.undo()
        same(self, all_told(watch), (
            ("time", "01:00:05", False), state(clock=3605, idle=5), 0, (("down", "b"), ("up", "b"), ("ticks", 5))
        ))

    def test_a_short_press_is_two_events(self):
        watch = press(Watch(ORDINARY_BOOK), "b")
        watch.undo()
        same(self, watch.state(), state(held=("b", 0)))
        watch.undo()
        same(self, watch.state(), state())

    def test_down_of_a_button_while_another_is_held(self):
        watch = Watch(ORDINARY_BOOK)
        watch.down("a")
        watch.down("b")
        same(self, watch.row(), (("down", "a"), ("down", "b")))
        watch.undo()
        same(self, all_told(watch), (("time", "00:00:00", False), state(held=("a", 0)), 0, (("down", "a"),)))
        watch.undo()
        self.assert_told(watch, ORDINARY_BOOK, (), 0)

    def test_rings_that_are_taken_back(self):
        for presses, many, rang in (("c", DAY, 1), ("aab", 2, 1), ("caab", 5 * DAY, 6), ("c", 10 ** 9 * DAY, 10 ** 9)):
            watch = press(Watch(RINGING_BOOK), presses)
            watch.ticks(many)
            same(self, watch.rang(), rang)
            watch.ticks(1)
            watch.undo()
            same(self, watch.rang(), rang)
            watch.undo()
            same(self, watch.rang(), 0)
            watch.ticks(many)
            same(self, watch.rang(), rang)

    def test_both_at_one_tick_taken_back(self):
        watch = press(Watch(RINGING_BOOK), "c")
        watch.ticks(DAY - 2)
        press(watch, "aab")
        watch.ticks(2)
        watch.undo()
        same(self, (watch.rang(), watch.state()[4]), (0, (0, 2, 2, True)))

    def test_ringing_that_was_stopped_rings_again(self):
        watch = press(Watch(RINGING_BOOK), "ab")
        watch.ticks(1)
        watch.down("c")
        same(self, watch.shown()[2], False)
        watch.undo()
        same(self, (watch.shown()[2], watch.rang(), watch.state()[5]), (True, 1, 10))

    def test_back_to_the_begin_and_one_more(self):
        for chance, at, ahead in by_chance(range(150)):
            row = chance.row(15)
            watch = Watch(at)
            told = [all_told(watch)]
            for event in row:
                do(watch, (event,))
                told.append(all_told(watch))
            for step in reversed(range(len(row))):
                watch.undo()
                same(self, all_told(watch), told[step])
            for again in range(2):
                with self.assertRaises(NoDeed):
                    watch.undo()
                same(self, all_told(watch), told[0])
            do(watch, row)
            same(self, all_told(watch), told[-1])

    def test_refused_at_the_begin(self):
        watch = Watch(ORDINARY_BOOK)
        with self.assertRaises(NoDeed) as first:
            watch.undo()
        with self.assertRaises(NoDeed) as second:
            watch.undo()
        self.assertIs(type(first.exception), NoDeed)
        self.assertIsInstance(first.exception, WatchError)
        self.assertNotIsInstance(first.exception, NoText)
        same(self, first.exception.args, second.exception.args)
        self.assert_told(watch, ORDINARY_BOOK, (), 0)
        watch.ticks(3)
        self.assert_told(watch, ORDINARY_BOOK, (("ticks", 3),), 0)

    def test_undone_and_done_anew(self):
        for chance, at, ahead in by_chance(range(200)):
            watch = Watch(at)
            kept = []
            for step in range(40):
                if kept and chance.number(0, 2) == 0:
                    watch.undo()
                    kept.pop()
                else:
                    event = chance.event()
                    do(watch, (event,))
                    kept.append(event)
            self.assert_told(watch, at, tuple(kept), rings_of(at, kept))
            same(self, all_told(do(Watch(at), watch.row())), all_told(watch))


class SideBySide(WatchCase):
    def test_two_watches_of_one_book(self):
        for chance, at, ahead in by_chance(range(100)):
            rows = [chance.row(12), chance.row(12)]
            watches = [Watch(at), Watch(at)]
            for cut in range(12):
                for row, watch in zip(rows, watches):
                    do(watch, row[cut:cut + 1])
            for row, watch in zip(rows, watches):
                self.assert_told(watch, at, row, rings_of(at, row))
            while watches[0].row() != ():
                watches[0].undo()
            self.assert_told(watches[0], at, (), 0)
            self.assert_told(watches[1], at, rows[1], rings_of(at, rows[1]))


class AskedAgain(WatchCase):
    def test_the_same_is_told_and_what_was_told_stays(self):
        for chance, at, ahead in by_chance(range(100)):
            handed_in = copy.deepcopy(at)
            watch = do(Watch(at), chance.row())
            told = all_told(watch)
            kept = copy.deepcopy(told)
            same(self, all_told(watch), told)
            do(watch, chance.row() + (("ticks", 5),))
            watch.undo()
            same(self, told, kept)
            same(self, at, handed_in)


class ManyOfThem(WatchCase):
    def test_many_events_and_many_ticks(self):
        began = time.monotonic()
        watch = press(Watch(RINGING_BOOK), "c")
        for step in range(2000):
            watch.ticks(1000 * DAY)
        same(self, watch.rang(), 2000 * 1000)
        for step in range(2000):
            watch.undo()
        same(self, watch.rang(), 0)
        self.assertLess(time.monotonic() - began, SECONDS)

    def test_somewhat_beyond_the_bounds(self):
        watch = Watch((12, 70, ORDINARY_BOOK[2]))
        watch.ticks(0)
        watch.down("a")
        watch.ticks(12)
        same(self, watch.state(), state(2, 12, held=("a", None)))


if __name__ == "__main__":
    unittest.main()
