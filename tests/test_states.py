import copy
import unittest

from handwatch.states import begun, is_state
from samples import ORDINARY_BOOK, ORDINARY_STATE, as_lists, book, book_of, mode, odd_things, parts_of, put

MODE = (0,)
CLOCK = (1,)
ALARM_HOUR = (2, 0)
ALARM_MINUTE = (2, 1)
ALARM_ON = (2, 2)
MANY = (3, 0)
LAPS_RUN = (3, 1)
KEPT = (3, 2)
COUNT_MINUTE = (4, 0)
COUNT_SECOND = (4, 1)
LEFT = (4, 2)
COUNT_RUNS = (4, 3)
RING = (5,)
HELD = (6,)
BUTTON = (6, 0)
TICKS = (6, 1)
IDLE = (7,)

HUGE = 10 ** 300

BOOKS = (
    ORDINARY_BOOK,
    book(hold=1, back=0),
    book(hold=9, back=60),
    book(hold=1, back=1, modes=(mode("count", True),)),
    book_of(1),
    book_of(8),
)


class StateCase(unittest.TestCase):
    def assert_state(self, thing, at=ORDINARY_BOOK):
        self.assertIs(is_state(at, thing), True, repr(thing))

    def assert_no_state(self, thing, at=ORDINARY_BOOK):
        self.assertIs(is_state(at, thing), False, repr(thing))

    def assert_bounds(self, path, least, most, at=ORDINARY_BOOK):
        for number in (least, min(least + 1, most), (least + most) // 2, most):
            self.assert_state(put(ORDINARY_STATE, path, number), at)
        for number in (least - 1, most + 1, -HUGE, HUGE):
            self.assert_no_state(put(ORDINARY_STATE, path, number), at)

    def assert_no_upper_bound(self, path):
        for number in (0, 1, 86400, 2 ** 64, HUGE):
            self.assert_state(put(ORDINARY_STATE, path, number))
        for number in (-1, -HUGE):
            self.assert_no_state(put(ORDINARY_STATE, path, number))


class Bounds(StateCase):
    def test_ordinary_states(self):
        self.assert_state(ORDINARY_STATE)
        self.assert_state((2, 0, (0, 0, True), (0, True, ()), (59, 59, 0, False), 10, ("c", None), 19))
        self.assert_state((0, 86399, (23, 59, False), (5, False, (9, 3, 9, 0)), (0, 0, 3599, True), 0, None, 0))

    def test_clock(self):
        self.assert_bounds(CLOCK, 0, 86399)

    def test_alarm(self):
        self.assert_bounds(ALARM_HOUR, 0, 23)
        self.assert_bounds(ALARM_MINUTE, 0, 59)

    def test_many_laps(self):
        self.assert_no_upper_bound(MANY)

    def test_kept_numbers(self):
        self.assert_no_upper_bound(KEPT + (0,))
        self.assert_no_upper_bound(KEPT + (1,))
        self.assert_state(put(ORDINARY_STATE, KEPT, (HUGE,) * 4))

    def test_0_to_4_are_kept(self):
        for many in range(5):
            self.assert_state(put(ORDINARY_STATE, KEPT, (12, 0, 99, 7)[:many]))
        for many in (5, 6, 50):
            self.assert_no_state(put(ORDINARY_STATE, KEPT, (3,) * many))

    def test_each_kept_number_counts(self):
        for place in range(4):
            for wrong in (-1, True, False, None, "1", (), (1,), [1]):
                self.assert_no_state(put(ORDINARY_STATE, KEPT, put((1, 2, 3, 4), (place,), wrong)))

    def test_count(self):
        self.assert_bounds(COUNT_MINUTE, 0, 59)
        self.assert_bounds(COUNT_SECOND, 0, 59)
        self.assert_bounds(LEFT, 1, 3599)

    def test_a_count_that_does_not_run(self):
        stands = put(ORDINARY_STATE, COUNT_RUNS, False)
        for left in (0, 1, 3599):
            self.assert_state(put(stands, LEFT, left))
        for left in (-1, 3600):
            self.assert_no_state(put(stands, LEFT, left))

    def test_a_count_with_nothing_left_does_not_run(self):
        self.assert_state(put(ORDINARY_STATE, (4,), (3, 20, 0, False)))
        self.assert_no_state(put(ORDINARY_STATE, (4,), (3, 20, 0, True)))
        self.assert_no_state(put(ORDINARY_STATE, (4,), (0, 0, 0, True)))
        self.assert_state(put(ORDINARY_STATE, (4,), (0, 0, 1, True)))

    def test_left_does_not_lean_on_minute_and_second(self):
        self.assert_state(put(ORDINARY_STATE, (4,), (0, 1, 3599, True)))

    def test_ring(self):
        self.assert_bounds(RING, 0, 10)

    def test_truths(self):
        for path in (ALARM_ON, LAPS_RUN, COUNT_RUNS):
            for truth in (True, False):
                self.assert_state(put(ORDINARY_STATE, path, truth))
            for wrong in (0, 1, None, "", "True", (), (True,)):
                self.assert_no_state(put(ORDINARY_STATE, path, wrong))


class LeaningOnTheBook(StateCase):
    def test_mode_is_a_number_of_one(self):
        for many in range(1, 9):
            self.assert_bounds(MODE, 0, many - 1, book_of(many))

    def test_held_ticks_up_to_hold_less_1(self):
        for hold in range(1, 10):
            self.assert_bounds(TICKS, 0, hold - 1, book(hold=hold))

    def test_held_and_done(self):
        for hold in (1, 5, 9):
            for button in ("a", "b", "c"):
                self.assert_state(put(ORDINARY_STATE, HELD, (button, None)), book(hold=hold))

    def test_none_is_held(self):
        for at in (book(hold=1), book(hold=9)):
            self.assert_state(put(ORDINARY_STATE, HELD, None), at)

    def test_idle_up_to_back_less_1(self):
        for back in range(1, 61):
            self.assert_bounds(IDLE, 0, back - 1, book(back=back))

    def test_idle_is_0_if_back_is_0(self):
        self.assert_bounds(IDLE, 0, 0, book(back=0))
        for truth in (True, False):
            self.assert_no_state(put(ORDINARY_STATE, IDLE, truth), book(back=0))

    def test_a_book_somewhat_beyond_its_bounds(self):
        self.assert_bounds(TICKS, 0, 9, book(hold=10))
        self.assert_bounds(IDLE, 0, 60, book(back=61))
        self.assert_bounds(MODE, 0, 8, book_of(9))


class Held(StateCase):
    def test_each_button(self):
        for button in ("a", "b", "c"):
            self.assert_state(put(ORDINARY_STATE, BUTTON, button))

    def test_texts_that_are_no_button(self):
        for button in ("", "A", "B", "C", "d", "ab", "abc", "bc", " ", "a ", "none"):
            self.assert_no_state(put(ORDINARY_STATE, BUTTON, button))

    def test_other_things_in_the_stead_of_held(self):
        for held in ((), (None,), (None, None), (None, 0), (0, "a"), "a", "ab", 0, False, True, ["a", 0], ("a", "0")):
            self.assert_no_state(put(ORDINARY_STATE, HELD, held))


def may_stand(path, thing):
    """Whether an odd thing is none at that part of a state."""
    if path == HELD or path == TICKS:
        return thing is None
    if path == KEPT:
        return isinstance(thing, tuple) and repr(thing) in (
            "()", "(0, 0)", "(0,)", "(1,)", "(7,)", "(" + str(10 ** 30) + ",)",
        )
    return False


class NoStates(StateCase):
    def test_one_part_more_or_less(self):
        for path, part in parts_of(ORDINARY_STATE):
            if isinstance(part, tuple) and path != KEPT:
                self.assert_no_state(put(ORDINARY_STATE, path, part + part[-1:]))
                self.assert_no_state(put(ORDINARY_STATE, path, part + (None,)))
                self.assert_no_state(put(ORDINARY_STATE, path, part[:-1]))
                self.assert_no_state(put(ORDINARY_STATE, path, part[1:]))
                self.assert_no_state(put(ORDINARY_STATE, path, ()))

    def test_a_list_in_the_stead_of_a_tuple(self):
        for path, part in parts_of(ORDINARY_STATE):
            if isinstance(part, tuple):
                self.assert_no_state(put(ORDINARY_STATE, path, list(part)))
                self.assert_no_state(put(ORDINARY_STATE, path, as_lists(part)))
        self.assert_no_state(put(ORDINARY_STATE, KEPT, []))

    def test_a_truth_in_the_stead_of_a_whole_number(self):
        for path, part in parts_of(ORDINARY_STATE):
            if isinstance(part, int) and not isinstance(part, bool):
                for truth in (True, False):
                    self.assert_no_state(put(ORDINARY_STATE, path, truth))

    def test_none_in_the_stead_of_a_part(self):
        for path, part in parts_of(ORDINARY_STATE):
            if path != HELD and path != TICKS:
                self.assert_no_state(put(ORDINARY_STATE, path, None))

    def test_things_of_any_other_kind(self):
        for at in BOOKS:
            self.assert_no_state(at, at)
            for thing in odd_things():
                self.assert_no_state(thing, at)

    def test_odd_things_in_the_stead_of_a_part(self):
        for path, part in parts_of(ORDINARY_STATE):
            for thing in odd_things():
                # Whole numbers, truths and texts of fitting kind have tests of their own.
                if not isinstance(thing, (int, str)) and not may_stand(path, thing):
                    self.assert_no_state(put(ORDINARY_STATE, path, thing))

    def test_numbers_and_texts_in_the_stead_of_one_another(self):
        for path, part in parts_of(ORDINARY_STATE):
            self.assert_no_state(put(ORDINARY_STATE, path, "0"))
            if isinstance(part, (str, tuple)):
                self.assert_no_state(put(ORDINARY_STATE, path, 0))


class Begun(StateCase):
    def test_the_state_that_it_tells(self):
        for at in BOOKS:
            # repr tells False from 0, too.
            self.assertEqual(
                repr(begun(at)), "(0, 0, (0, 0, False), (0, False, ()), (0, 0, 0, False), 0, None, 0)"
            )

    def test_it_is_a_state(self):
        for at in BOOKS:
            self.assert_state(begun(at), at)


class AskedAgain(StateCase):
    def test_what_is_handed_in_stays_and_the_same_is_told(self):
        for at in BOOKS:
            for thing in odd_things() + [ORDINARY_STATE, as_lists(ORDINARY_STATE), begun(at)]:
                book_ahead = copy.deepcopy(at)
                ahead = copy.deepcopy(thing)
                first = is_state(at, thing)
                self.assertIn(repr(first), ("True", "False"))
                self.assertIs(is_state(at, thing), first)
                self.assertEqual(repr(thing), repr(ahead))
                self.assertEqual(repr(at), repr(book_ahead))

    def test_begun_tells_the_same_again(self):
        for at in BOOKS:
            ahead = copy.deepcopy(at)
            self.assertEqual(repr(begun(at)), repr(begun(at)))
            self.assertEqual(repr(at), repr(ahead))


if __name__ == "__main__":
    unittest.main()
