"""What holds over the whole program: [0.1], [0.2], [0.3], and the interface."""

import copy
import importlib
import inspect
import re
import time
import unittest

from handwatch.books import is_book
from handwatch.comparing import are_alike, least, parts
from handwatch.errors import NoDeed, NoText, WatchError
from handwatch.going import gone, shown
from handwatch.ringing import next_ring, rings
from handwatch.rows import after, pressed, read_row, row_text, seen, story
from handwatch.states import begun, is_state
from handwatch.texts import book_text, read_book
from handwatch.watches import Watch
from handwatch.ways import reach, trapped, way_to
from samples import Chance, SlowWatch, by_chance, put, same

DAY = 86400
SECONDS = 10

INTERFACE = {
    "books": {"is_book": 1},
    "states": {"is_state": 2, "begun": 1},
    "going": {"gone": 3, "shown": 2},
    "rows": {"after": 3, "pressed": 3, "seen": 2, "story": 2, "row_text": 1, "read_row": 1},
    "ringing": {"rings": 3, "next_ring": 2},
    "ways": {"reach": 1, "way_to": 2, "trapped": 1},
    "comparing": {"parts": 2, "least": 1, "are_alike": 2},
    "watches": {"Watch": 1},
    "texts": {"book_text": 1, "read_book": 1},
}
METHODS = {"down": 1, "up": 1, "ticks": 1, "shown": 0, "state": 0, "rang": 0, "undo": 0, "row": 0}


def do(watch, row):
    for kind, what in row:
        {"down": watch.down, "up": watch.up, "ticks": watch.ticks}[kind](what)
    return watch


def all_told(watch):
    return (watch.shown(), watch.state(), watch.rang(), watch.row())


def questions(at, other, ahead, row):
    """All that may be asked of books, a state and a row, each as a def without arguments."""
    text, row_as_text = book_text(at), row_text(row)
    return [
        lambda: is_book(at), lambda: is_state(at, ahead), lambda: begun(at),
        lambda: tuple(gone(at, ahead, event) for event in row), lambda: shown(at, ahead),
        lambda: after(at, ahead, row), lambda: pressed(at, ahead, "aBcCbA"), lambda: seen(at, row),
        lambda: story(at, row), lambda: row_text(row), lambda: read_row(row_as_text),
        lambda: rings(at, ahead, 3 * DAY), lambda: next_ring(at, ahead),
        lambda: reach(at), lambda: tuple(way_to(at, number) for number in range(8)), lambda: trapped(at),
        lambda: parts(at, other), lambda: are_alike(at, other), lambda: are_alike(at, at), lambda: least(at),
        lambda: book_text(at), lambda: read_book(text), lambda: all_told(do(Watch(at), row)),
    ]


def kinds_told(thing):
    if type(thing) is tuple:
        return {tuple}.union(*[kinds_told(part) for part in thing])
    return {type(thing)}


def texts_told(thing):
    if type(thing) is tuple:
        return [text for part in thing for text in texts_told(part)]
    return [thing] if type(thing) is str else []


class Interface(unittest.TestCase):
    def test_names_and_arguments(self):
        for name, parts_of_it in INTERFACE.items():
            module = importlib.import_module("handwatch." + name)
            for called, many in parts_of_it.items():
                self.assertEqual(len(inspect.signature(getattr(module, called)).parameters), many, called)

    def test_methods(self):
        self.assertTrue(inspect.isclass(Watch))
        for name, many in METHODS.items():
            self.assertEqual(len(inspect.signature(getattr(Watch, name)).parameters), many + 1, name)

    def test_errors(self):
        self.assertTrue(issubclass(WatchError, ValueError))
        for one, other in ((NoText, NoDeed), (NoDeed, NoText)):
            self.assertTrue(issubclass(one, WatchError))
            self.assertFalse(issubclass(one, other))


class OverTheWhole(unittest.TestCase):
    def test_a_watchs_row_written_and_read_and_done_anew(self):
        for chance, at, ahead in by_chance(range(200)):
            watch = do(Watch(at), chance.row(30))
            for step in range(min(chance.number(0, 3), len(watch.row()))):
                watch.undo()
            another = do(Watch(read_book(book_text(at))), read_row(row_text(watch.row())))
            same(self, all_told(another), all_told(watch))

    def test_books_and_rows_and_their_texts_tell_one_another(self):
        for chance, at, ahead in by_chance(range(200)):
            row = chance.row(20)
            same(self, read_book(book_text(at)), at)
            same(self, read_row(row_text(row)), row)
            other, other_row = chance.book(), chance.row(20)
            self.assertEqual(book_text(at) == book_text(other), at == other)
            self.assertEqual(row_text(row) == row_text(other_row), row == other_row)

    def test_ticks_in_parts(self):
        for chance, at, ahead in by_chance(range(200)):
            many, more = chance.pick((1, 5, 60, DAY)), chance.pick((1, 9, 10, 5 * DAY))
            watch = do(Watch(at), chance.row())
            other = do(Watch(at), watch.row())
            watch.ticks(many + more)
            other.ticks(many)
            other.ticks(more)
            same(self, all_told(other)[:3], all_told(watch)[:3])

    def test_the_clock_goes_on_whatever_is_pressed(self):
        for chance, at, ahead in by_chance(range(200)):
            still = at
            for number in range(len(at[2])):
                for press in range(6):
                    if at[2][number][2][press][0] in ("hour", "minute", "zero"):
                        still = put(still, (2, number, 2, press, 0), "none")
            row = chance.row(30)
            went = sum(what for kind, what in row if kind == "ticks")
            self.assertEqual(after(still, ahead, row)[1], (ahead[1] + went) % DAY)

    def test_what_is_told_to_ring_next_rings_just_then(self):
        for chance, at, ahead in by_chance(range(200)):
            watch = do(Watch(at), chance.row(20))
            rang, first = watch.rang(), next_ring(at, watch.state())
            if first is None:
                watch.ticks(3 * DAY)
                self.assertEqual(watch.rang(), rang)
                continue
            if first > 1:
                watch.ticks(first - 1)
                self.assertEqual(watch.rang(), rang)
            watch.ticks(1)
            self.assertEqual((watch.rang(), watch.state()[5], watch.shown()[2]), (rang + 1, 10, True))

    def test_rings_of_a_story_are_those_that_rings_tells(self):
        for chance, at, ahead in by_chance(range(300)):
            row = chance.row(20)
            behind, went, asked = begun(at), 0, []
            for event in row:
                if event[0] == "ticks":
                    asked.extend(went + tick for tick in rings(at, behind, event[1]))
                    went += event[1]
                behind = gone(at, behind, event)
            told = [ticks for ticks, what in story(at, row) if what == "ring"]
            self.assertEqual(told, asked)
            self.assertEqual(do(Watch(at), row).rang(), len(asked))
            # Days on, with nothing but ticks.
            asked.extend(went + tick for tick in rings(at, behind, 3 * DAY))
            self.assertEqual([ticks for ticks, what in story(at, row + (("ticks", 3 * DAY),)) if what == "ring"], asked)

    def test_presses_of_a_story_lead_where_the_row_does(self):
        for chance, at, ahead in by_chance(range(300)):
            row = chance.row(20)
            number = 0
            for ticks, what in story(at, row):
                if what == "back":
                    number = 0
                elif what != "ring":
                    number = at[2][number][2]["abcABC".index(what)][1]
            self.assertEqual(after(at, begun(at), row)[0], number)

    def test_modes_are_come_to_just_if_reach_tells_them(self):
        for chance, at, ahead in by_chance(range(200)):
            at = chance.dull_book()
            watch = Watch(at)
            for event in chance.row(40):
                do(watch, (event,))
                self.assertIn(watch.state()[0], reach(at))

    def test_alike_books_show_the_same(self):
        for chance, at, ahead in by_chance(range(300)):
            at = chance.dull_book()
            other = at[:2] + chance.told_otherwise(at)[2:]
            row = chance.row(30)
            same(self, seen(other, row), seen(at, row))
            same(self, seen(least(at), row), seen(at, row))
            self.assertEqual(after(least(at), begun(at), row)[1:], after(at, begun(at), row)[1:])
            self.assertTrue(are_alike(read_book(book_text(least(other))), at))

    def test_states_are_states_all_along(self):
        for chance, at, ahead in by_chance(range(200)):
            watch = Watch(at)
            for event in chance.row(30):
                do(watch, (event,))
                self.assertTrue(is_state(at, watch.state()))

    def test_as_the_slow_watch_tells(self):
        for chance, at, ahead in by_chance(range(3000, 3200)):
            row = chance.row(50)
            slow = SlowWatch(at, begun(at)).go(row)
            watch = do(Watch(at), row)
            same(self, (watch.state(), watch.rang()), (slow.state(), len(slow.rings())))


class HandedInAndTold(unittest.TestCase):
    def test_asked_twice_and_what_is_handed_in_stays(self):
        for chance, at, ahead in by_chance(range(150)):
            handed_in = (at, chance.told_otherwise(chance.dull_book()), ahead, chance.row(20))
            kept = copy.deepcopy(handed_in)
            asked = questions(*handed_in)
            told = [question() for question in asked]
            told_kept = copy.deepcopy(told)
            for number in reversed(range(len(asked))):
                same(self, asked[number](), told[number])
            for question, answer in zip(questions(*kept), told):
                same(self, question(), answer)
            same(self, handed_in, kept)
            same(self, told, told_kept)

    def test_kinds_and_signs_of_all_that_is_told(self):
        for chance, at, ahead in by_chance(range(150)):
            for question in questions(at, chance.dull_book(), ahead, chance.row(20)):
                told = question()
                self.assertLessEqual(kinds_told(told), {tuple, str, int, bool, type(None)})
                for text in texts_told(told):
                    self.assertIsNotNone(re.fullmatch("[ -~\n]*", text))

    def test_truths_are_truths_and_whole_numbers_are_none(self):
        for chance, at, ahead in by_chance(range(100)):
            other = chance.dull_book()
            for told in (is_book(at), is_state(at, ahead), shown(at, ahead)[2], are_alike(at, other)):
                self.assertIs(type(told), bool)
            numbers = reach(at) + trapped(at) + rings(at, ahead, 5 * DAY) + (do(Watch(at), chance.row()).rang(),)
            self.assertEqual({type(number) for number in numbers}, {int})
            self.assertTrue(is_book(least(other)))
            self.assertTrue(is_book(read_book(book_text(at))))

    def test_refusals_are_of_their_class_and_told_again_the_same(self):
        texts = ("x", " ", "+d", ".0", "hold 1 back 0\n", "hold 0 back 0\n", "mode time\n", "~", "\n", "+a  -a")
        refused = [(NoText, lambda text=text: read_row(text)) for text in texts]
        refused.extend((NoText, lambda text=text: read_book(text)) for text in texts + ("",))
        for seed in range(20):
            at = Chance(seed).book()
            refused.append((NoDeed, lambda at=at: Watch(at).undo()))
            refused.append((NoText, lambda at=at: read_book(book_text(at)[:-1])))
            refused.append((NoText, lambda at=at: read_row(book_text(at))))
        for kind, question in refused:
            told = []
            for again in range(2):
                with self.assertRaises(WatchError) as caught:
                    question()
                self.assertIs(type(caught.exception), kind)
                told.append(caught.exception.args)
            same(self, told[0], told[1])


class ThousandDays(unittest.TestCase):
    def test_many_ticks_take_no_longer_than_the_days_that_they_are(self):
        began = time.monotonic()
        for chance, at, ahead in by_chance(range(30)):
            row = chance.row() + (("ticks", 1000 * DAY),)
            watch = do(Watch(at), row)
            told = [what for ticks, what in story(at, row)]
            self.assertEqual(watch.rang(), told.count("ring"))
            self.assertEqual(len(rings(at, ahead, 1000 * DAY)), rings_one_by_one(at, ahead, 1000 * DAY))
            seen(at, row)
            watch.undo()
        self.assertLess(time.monotonic() - began, SECONDS)


def rings_one_by_one(at, ahead, many):
    """How many rings there are, one after the other by next_ring."""
    count = 0
    first = next_ring(at, ahead)
    while first is not None and first <= many:
        count += 1
        ahead = gone(at, ahead, ("ticks", first))
        many -= first
        first = next_ring(at, ahead)
    return count


if __name__ == "__main__":
    unittest.main()
