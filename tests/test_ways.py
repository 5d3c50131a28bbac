"""Ways from mode to mode: [5.1], [0.2] (e), [0.3]."""

import copy
import unittest

from handwatch.rows import after, pressed
from handwatch.states import begun
from handwatch.ways import reach, trapped, way_to
from samples import Chance, book, book_of, by_chance, chain, mode, put, same, texts_of, walk

QUIET_DEEDS = ("none", "hour", "minute", "zero", "run", "lap")


def still(number, stays=True, deed="none"):
    """A mode that leads to itself alone."""
    return mode("time", stays, ((deed, number),) * 6)


def to(number, stays=True):
    """A mode all presses of which lead to that one."""
    return mode("time", stays, (("none", number),) * 6)


def ends_within(at, length, begin=0):
    """The modes to which texts of at most so many presses lead, gone through one level after the other."""
    ends = {begin}
    for step in range(length):
        ends = ends | {row[1] for end in ends for row in at[2][end][2]}
    return ends


def books():
    for seed in range(400):
        chance = Chance(seed)
        yield chance.book()
        yield chance.dull_book()


class Reach(unittest.TestCase):
    def test_one_mode(self):
        same(self, reach(book(modes=(mode(),))), (0,))

    def test_eight_modes(self):
        same(self, reach(book_of(8)), (0, 1, 2, 3, 4, 5, 6, 7))
        for press in "abcABC":
            same(self, reach(chain(8, press)), (0, 1, 2, 3, 4, 5, 6, 7))

    def test_modes_to_which_none_leads(self):
        same(self, reach(book(modes=(still(0), to(0), to(1)))), (0,))
        same(self, reach(book(modes=(to(2), to(0), to(2)))), (0, 2))
        same(self, reach(book(modes=(to(3), to(2), to(1), to(3)))), (0, 3))

    def test_modes_that_lead_to_themselves_alone(self):
        same(self, reach(book(modes=(still(0), still(1), still(2)))), (0,))
        same(self, reach(book(modes=(to(2), still(1), still(2)))), (0, 2))

    def test_mode_0_to_which_none_leads_back(self):
        same(self, reach(book(modes=(to(1), still(1)))), (0, 1))

    def test_rising_whatever_the_order_in_which_they_are_come_to(self):
        rows = (("none", 5), ("none", 1), ("none", 4), ("none", 2), ("none", 0), ("none", 3))
        same(self, reach(book(modes=(mode("time", True, rows),) + (to(0),) * 5)), (0, 1, 2, 3, 4, 5))

    def test_going_back_leads_nowhere_here(self):
        same(self, reach(book(back=1, modes=(to(1), still(1, False), to(0)))), (0, 1))

    def test_by_each_press(self):
        for number in range(6):
            at = book(modes=(put(still(0), (2, number, 1), 1), to(0)))
            same(self, reach(at), (0, 1))

    def test_as_the_levels_tell(self):
        for at in books():
            same(self, reach(at), tuple(sorted(ends_within(at, 8))))
            self.assertIn(0, reach(at))


class WayTo(unittest.TestCase):
    def test_mode_0(self):
        same(self, way_to(book(modes=(mode(),)), 0), "")
        for at in books():
            same(self, way_to(at, 0), "")

    def test_behind_short_presses_and_behind_long_ones(self):
        for press in "abcABC":
            for number in range(8):
                same(self, way_to(chain(8, press), number), press * number)

    def test_behind_both(self):
        first = put(still(0), (2, 1, 1), 1)
        second = put(still(1), (2, 5, 1), 2)
        third = put(still(2), (2, 0, 1), 3)
        at = book(modes=(first, second, third, still(3)))
        same(self, [way_to(at, number) for number in range(4)], ["", "b", "bC", "bCa"])

    def test_several_ways(self):
        at = book(modes=(to(1), to(2), still(2)))
        self.assertIn(way_to(at, 1), texts_of(1))
        self.assertIn(way_to(at, 2), texts_of(2))
        # A short cut by a long press, beside a longer way by short ones.
        cut = book(modes=(put(to(1), (2, 5, 1), 3), to(2), to(3), still(3)))
        same(self, way_to(cut, 3), "C")

    def test_none(self):
        same(self, way_to(book(modes=(still(0), to(0))), 1), None)
        same(self, way_to(book(modes=(to(2), to(0), to(2))), 1), None)
        same(self, way_to(book(modes=(still(0), to(2), to(1))), 2), None)

    def test_a_mode_that_the_book_does_not_have(self):
        for number in (-1, 3, 8, 9):
            same(self, way_to(book(), number), None)

    def test_nine_modes(self):
        faces = ("time",) * 9
        at = chain(9, "B", deeds=("none",) * 9, faces=faces, stays=(True,) * 9)
        same(self, way_to(at, 8), "B" * 8)
        same(self, reach(at), tuple(range(9)))

    def test_it_leads_there_and_none_with_fewer_presses_does(self):
        for at in books():
            for number in range(len(at[2])):
                way = way_to(at, number)
                if way is None:
                    self.assertNotIn(number, ends_within(at, 8))
                    continue
                self.assertIs(type(way), str)
                self.assertEqual(walk(at, way), number)
                if way != "":
                    self.assertNotIn(number, ends_within(at, len(way) - 1))

    def test_no_text_of_fewer_presses_leads_there(self):
        for chance, at, ahead in by_chance(range(40)):
            at = chance.dull_book()
            for number in reach(at):
                for length in range(min(len(way_to(at, number)), 4)):
                    self.assertNotIn(number, [walk(at, text) for text in texts_of(length)])

    def test_pressing_it_leads_there(self):
        # Deeds that can bring a ring are left out: a press that only stops it leads nowhere.
        for seed in range(300):
            chance = Chance(seed)
            hold, back, modes = chance.book()
            quiet = tuple((face, stays, tuple((chance.pick(QUIET_DEEDS), row[1]) for row in rows))
                          for face, stays, rows in modes)
            at = (hold, back, quiet)
            for number in reach(at):
                self.assertEqual(pressed(at, begun(at), way_to(at, number))[0], number)


class Trapped(unittest.TestCase):
    def test_one_mode(self):
        for back in (0, 1, 60):
            for stays in (False, True):
                same(self, trapped(book(back=back, modes=(still(0, stays),))), ())

    def test_modes_that_stay_and_that_do_not_with_and_without_back(self):
        modes = (to(1), still(1, True), still(2, False), still(3, True))
        same(self, trapped(book(back=0, modes=modes)), (1, 2, 3))
        for back in (1, 20, 60):
            same(self, trapped(book(back=back, modes=modes)), (1, 3))

    def test_none(self):
        for back in (0, 20):
            same(self, trapped(book(back=back)), ())
            same(self, trapped(book_of(8)), ())

    def test_modes_from_which_mode_0_is_come_to_over_others(self):
        same(self, trapped(book(back=0, modes=(still(0), to(0), to(1), to(2)))), ())
        # From 1 one comes to 2, which goes back, if there is going back.
        modes = (to(1), to(2), still(2, False))
        same(self, trapped(book(back=0, modes=modes)), (1, 2))
        same(self, trapped(book(back=1, modes=modes)), ())

    def test_by_each_press(self):
        for number in range(6):
            at = book(back=0, modes=(to(1), put(still(1), (2, number, 1), 0)))
            same(self, trapped(at), ())

    def test_several_that_lead_to_one_another(self):
        same(self, trapped(book(back=60, modes=(to(1), to(2), to(3), to(1)))), (1, 2, 3))

    def test_modes_that_are_not_come_to_are_told_too(self):
        same(self, trapped(book(back=0, modes=(still(0), still(1), to(0), to(1)))), (1, 3))

    def test_mode_0_is_not_trapped_where_none_leads_to_it(self):
        same(self, trapped(book(back=0, modes=(to(1), still(1)))), (1,))

    def test_eight_modes(self):
        for press in "abcABC":
            same(self, trapped(chain(8, press)), (1, 2, 3, 4, 5, 6, 7))
            stays = (True,) * 7 + (False,)
            same(self, trapped(chain(8, press, back=5, stays=stays)), ())
            stays = (True,) * 5 + (False,) + (True,) * 2
            same(self, trapped(chain(8, press, back=5, stays=stays)), (6, 7))

    def test_as_the_levels_tell(self):
        for at in books():
            asked = []
            for number in range(len(at[2])):
                ends = ends_within(at, 8, number)
                back = at[1] > 0 and any(not at[2][end][1] for end in ends)
                if 0 not in ends and not back:
                    asked.append(number)
            same(self, trapped(at), tuple(asked))

    def test_no_presses_lead_out(self):
        for seed in range(60):
            at = Chance(seed).dull_book()
            for number in trapped(at):
                for length in range(4):
                    ends = {walk(at, text, number) for text in texts_of(length)}
                    self.assertNotIn(0, ends)
                    self.assertLessEqual(ends, set(trapped(at)))

    def test_no_events_lead_out(self):
        for chance, at, ahead in by_chance(range(300)):
            at = chance.dull_book()
            for number in trapped(at):
                ahead = put(begun(at), (0,), number)
                for step in range(10):
                    ahead = pressed(at, after(at, ahead, chance.row(4)), chance.pick("abcABC"))
                    self.assertIn(ahead[0], trapped(at))


class AskedAgain(unittest.TestCase):
    def test_what_is_handed_in_stays_and_the_same_is_told(self):
        for at in books():
            handed_in = copy.deepcopy(at)
            same(self, reach(at), reach(at))
            same(self, trapped(at), trapped(at))
            for number in range(len(at[2])):
                same(self, way_to(at, number), way_to(at, number))
            same(self, at, handed_in)


if __name__ == "__main__":
    unittest.main()
