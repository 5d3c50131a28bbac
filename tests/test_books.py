import copy
import unittest

from handwatch.books import is_book
from samples import (
    DEEDS, FACES, ORDINARY_BOOK, ORDINARY_STATE, PLAIN_ROWS, as_lists, book, book_of, mode, odd_things, parts_of, put,
)

MODES = (2,)


def all_paths(kind):
    return [path for path, part in parts_of(ORDINARY_BOOK) if isinstance(part, kind)]


class BookCase(unittest.TestCase):
    def assert_book(self, thing):
        self.assertIs(is_book(thing), True, repr(thing))

    def assert_no_book(self, thing):
        self.assertIs(is_book(thing), False, repr(thing))


class Books(BookCase):
    def test_ordinary_books(self):
        self.assert_book(ORDINARY_BOOK)
        self.assert_book((1, 0, (("laps", False, PLAIN_ROWS),)))
        self.assert_book((5, 30, (mode("time"), mode("time"))))

    def test_hold_from_1_to_9(self):
        for hold in range(1, 10):
            self.assert_book(book(hold=hold))
        for hold in (0, 10, -1, 10 ** 30):
            self.assert_no_book(book(hold=hold))

    def test_back_from_0_to_60(self):
        for back in range(61):
            self.assert_book(book(back=back))
        for back in (-1, 61, 10 ** 30):
            self.assert_no_book(book(back=back))

    def test_1_to_8_modes(self):
        for many in range(1, 9):
            self.assert_book(book_of(many))
        for many in (9, 10, 100):
            self.assert_no_book(book_of(many))
        self.assert_no_book(book(modes=()))

    def test_9_modes_that_lead_to_the_first_alone(self):
        self.assert_book(book(modes=(mode(),) * 8))
        self.assert_no_book(book(modes=(mode(),) * 9))

    def test_each_face_in_each_mode(self):
        for face in FACES:
            for number in range(3):
                self.assert_book(put(ORDINARY_BOOK, (2, number, 0), face))

    def test_each_deed_at_each_press(self):
        for deed in DEEDS:
            for press in range(6):
                self.assert_book(put(ORDINARY_BOOK, (2, 1, 2, press, 0), deed))

    def test_stays_is_a_truth(self):
        for stays in (True, False):
            self.assert_book(put(ORDINARY_BOOK, (2, 2, 1), stays))
        for stays in (0, 1, None, "True", "", ()):
            self.assert_no_book(put(ORDINARY_BOOK, (2, 2, 1), stays))

    def test_next_from_0_to_the_last_mode(self):
        for many in range(1, 9):
            for number in (0, many - 1):
                for press in range(6):
                    path = (2, number, 2, press, 1)
                    self.assert_book(put(book_of(many), path, 0))
                    self.assert_book(put(book_of(many), path, many - 1))
                    self.assert_no_book(put(book_of(many), path, many))
                    self.assert_no_book(put(book_of(many), path, -1))

    def test_next_at_a_mode_that_was_left_out(self):
        self.assert_no_book(put(ORDINARY_BOOK, MODES, ORDINARY_BOOK[2][:2]))


class NoBooks(BookCase):
    def test_one_part_more_or_less(self):
        for path, part in parts_of(ORDINARY_BOOK):
            if isinstance(part, tuple) and path != MODES:
                self.assert_no_book(put(ORDINARY_BOOK, path, part + part[-1:]))
                self.assert_no_book(put(ORDINARY_BOOK, path, part + (None,)))
                self.assert_no_book(put(ORDINARY_BOOK, path, part[:-1]))
                self.assert_no_book(put(ORDINARY_BOOK, path, part[1:]))
                self.assert_no_book(put(ORDINARY_BOOK, path, ()))

    def test_something_behind_the_modes(self):
        for more in (None, 0, (), "time", ORDINARY_BOOK, mode()[:2], list(mode())):
            self.assert_no_book(put(ORDINARY_BOOK, MODES, ORDINARY_BOOK[2] + (more,)))

    def test_a_list_in_the_stead_of_a_tuple(self):
        for path, part in parts_of(ORDINARY_BOOK):
            if isinstance(part, tuple):
                self.assert_no_book(put(ORDINARY_BOOK, path, list(part)))
                self.assert_no_book(put(ORDINARY_BOOK, path, as_lists(part)))

    def test_a_truth_in_the_stead_of_a_whole_number(self):
        for path, part in parts_of(ORDINARY_BOOK):
            if isinstance(part, int) and not isinstance(part, bool):
                for truth in (True, False):
                    self.assert_no_book(put(ORDINARY_BOOK, path, truth))

    def test_a_whole_number_in_the_stead_of_a_truth(self):
        for path in all_paths(bool):
            for number in (0, 1):
                self.assert_no_book(put(ORDINARY_BOOK, path, number))

    def test_texts_that_are_no_face_and_no_deed(self):
        for path in all_paths(str):
            for text in ("", " ", "non", "none ", " time", "TIME", "Hour", "a", "timealarm", "hour\n", "None"):
                self.assert_no_book(put(ORDINARY_BOOK, path, text))

    def test_faces_and_deeds_are_not_mixed(self):
        for face in ("time", "laps"):
            self.assert_no_book(put(ORDINARY_BOOK, (2, 0, 2, 0, 0), face))
        for deed in ("none", "hour", "minute", "zero", "ahour", "aminute", "run", "lap", "cminute", "csecond", "full"):
            self.assert_no_book(put(ORDINARY_BOOK, (2, 0, 0), deed))

    def test_things_of_any_other_kind(self):
        self.assert_no_book(ORDINARY_STATE)
        for thing in odd_things():
            self.assert_no_book(thing)

    def test_odd_things_in_the_stead_of_a_part(self):
        for path, part in parts_of(ORDINARY_BOOK):
            for thing in odd_things():
                # Whole numbers, truths and texts of fitting kind have tests of their own.
                if not isinstance(thing, (int, str)):
                    self.assert_no_book(put(ORDINARY_BOOK, path, thing))


class AskedAgain(BookCase):
    def test_what_is_handed_in_stays_and_the_same_is_told(self):
        for thing in odd_things() + [ORDINARY_BOOK, as_lists(ORDINARY_BOOK), book_of(8), book_of(9)]:
            ahead = copy.deepcopy(thing)
            first = is_book(thing)
            self.assertIn(repr(first), ("True", "False"))
            self.assertIs(is_book(thing), first)
            self.assertEqual(repr(thing), repr(ahead))


if __name__ == "__main__":
    unittest.main()
