"""Books as texts: [8.1], [0.2] (a), [0.3]."""

import copy
import re
import unittest

from handwatch.books import is_book
from handwatch.errors import NoDeed, NoText, WatchError
from handwatch.texts import book_text, read_book
from samples import DEEDS, FACES, ORDINARY_BOOK, Chance, book, book_of, mode, same

ORDINARY_TEXT = """hold 3 back 20
mode time stays
a none 1
b hour 0
c minute 0
A none 2
B zero 0
C none 0
mode alarm
a none 2
b ahour 1
c aminute 1
A alarm 1
B none 0
C none 1
mode count stays
a none 0
b cminute 2
c csecond 2
A full 2
B count 2
C none 1
"""
PLAIN_TEXT = "hold 1 back 0\nmode time\na none 0\nb none 0\nc none 0\nA none 0\nB none 0\nC none 0\n"
PLAIN_BOOK = (1, 0, (mode(),))
MODE_TEXT = "mode laps stays\na run 0\nb lap 0\nc none 0\nA none 0\nB none 0\nC none 0\n"
SIGNS = [chr(number) for number in range(32, 127)] + ["\n"]

TOLD = re.compile(
    r"\Ahold [1-9] back ([0-9]|[1-5][0-9]|60)\n"
    r"(mode (time|alarm|laps|count)( stays)?\n"
    + "".join(press + " (" + "|".join(DEEDS) + ") [0-7]\n" for press in "abcABC") + r"){1,8}\Z"
)


def is_told(text):
    """Whether the text is a book's, asked by its form and the numbers of its modes."""
    if TOLD.match(text) is None:
        return False
    many = text.count("mode ")
    return all(int(end) < many for end in re.findall(r"[a-cA-C] [a-z]+ ([0-7])\n", text))


def rows_of(text):
    return text.split("\n")[:-1]


def text_of(rows):
    return "".join(row + "\n" for row in rows)


class BothWays(unittest.TestCase):
    def assert_both(self, at, text):
        same(self, book_text(at), text)
        same(self, read_book(text), at)

    def test_ordinary_ones(self):
        self.assert_both(ORDINARY_BOOK, ORDINARY_TEXT)
        self.assert_both(PLAIN_BOOK, PLAIN_TEXT)

    def test_each_number_of_modes(self):
        for many in range(1, 9):
            text = "hold 5 back 33\n" + MODE_TEXT * many
            rows = (("run", 0), ("lap", 0)) + (("none", 0),) * 4
            self.assert_both((5, 33, (mode("laps", True, rows),) * many), text)
            same(self, read_book(book_text(book_of(many))), book_of(many))

    def test_each_next(self):
        for many in range(1, 9):
            for number in range(many):
                at = (2, 2, (mode(rows=(("none", number),) * 6),) * many)
                self.assertIn(f"C none {number}\n", book_text(at))
                same(self, read_book(book_text(at)), at)

    def test_each_face_that_stays_and_that_does_not(self):
        for face in FACES:
            self.assert_both((1, 0, (mode(face),)), PLAIN_TEXT.replace("mode time", "mode " + face))
            self.assert_both((1, 0, (mode(face, True),)), PLAIN_TEXT.replace("mode time", "mode " + face + " stays"))

    def test_each_deed_at_each_press(self):
        for deed in DEEDS:
            for number, press in enumerate("abcABC"):
                rows = (("none", 0),) * number + ((deed, 0),) + (("none", 0),) * (5 - number)
                text = PLAIN_TEXT.replace(press + " none", press + " " + deed)
                self.assert_both((1, 0, (mode(rows=rows),)), text)

    def test_each_hold_and_back(self):
        for hold in range(1, 10):
            for back in range(61):
                text = PLAIN_TEXT.replace("hold 1 back 0", f"hold {hold} back {back}")
                self.assert_both((hold, back, (mode(),)), text)

    def test_all_sorts(self):
        for seed in range(300):
            at = Chance(seed).book()
            same(self, read_book(book_text(at)), at)
            self.assertTrue(is_told(book_text(at)))


class Refused(unittest.TestCase):
    def assert_refused(self, text):
        self.assertFalse(is_told(text))
        with self.subTest(text=text):
            with self.assertRaises(NoText):
                read_book(text)

    def assert_each_refused(self, whole, old, news):
        self.assertIn(old, whole)
        for new in news:
            self.assert_refused(whole.replace(old, new, 1))

    def test_texts_of_no_rows(self):
        for text in ("", "\n", "\n\n", " ", "hold", "mode", "a", "None", "\n" * 8, "\n" * 9, " \n" * 8):
            self.assert_refused(text)

    def test_row_ends(self):
        for text in (ORDINARY_TEXT, PLAIN_TEXT):
            rows = rows_of(text)
            self.assert_refused(text[:-1])
            self.assert_refused(text + "\n")
            self.assert_refused("\n" + text)
            self.assert_refused("\n".join(rows + [""] * 8))
            for number in range(1, len(rows)):
                ahead, behind = text_of(rows[:number]), text_of(rows[number:])
                self.assert_refused(ahead[:-1] + behind)
                self.assert_refused(ahead[:-1] + " " + behind)
                self.assert_refused(ahead + "\n" + behind)

    def test_blanks(self):
        for text in (ORDINARY_TEXT, PLAIN_TEXT):
            for place in range(len(text) + 1):
                self.assert_refused(text[:place] + " " + text[place:])
            for place in range(len(text)):
                if text[place] == " ":
                    self.assert_refused(text[:place] + text[place + 1:])
                    self.assert_refused(text[:place] + "\n" + text[place + 1:])

    def test_noughts_ahead_and_other_forms_of_numbers(self):
        for old in ("hold 3", "back 20", "none 1", "none 0"):
            word, number = old.split(" ")
            forms = ["0" + number, "00" + number, "+" + number, "-" + number, number + ".", number + ".0", number + "_",
                     "_" + number, number + "e0", "", "x", "None", "True", '"' + number + '"', "0x" + number, "(0)"]
            self.assert_each_refused(ORDINARY_TEXT, old, [word + " " + form for form in forms])
        self.assert_each_refused(ORDINARY_TEXT, "back 20", ["back 2_0", "back 2 0", "back 020"])

    def test_numbers_out_of_their_bounds(self):
        self.assert_each_refused(ORDINARY_TEXT, "hold 3", ["hold 0", "hold 10", "hold 11", "hold -1", "hold 33"])
        self.assert_each_refused(ORDINARY_TEXT, "back 20", ["back 61", "back 62", "back 99", "back 100", "back -1"])
        for figures in ("9" * 5, "1" + "0" * 50, "9" * 6000):
            for old in ("hold 3", "back 20", "none 1"):
                self.assert_each_refused(ORDINARY_TEXT, old, [old.split(" ")[0] + " " + figures])

    def test_a_next_that_is_no_modes(self):
        for many in range(1, 9):
            whole = "hold 5 back 33\n" + MODE_TEXT * many
            self.assertTrue(is_told(whole))
            for old in ("a run 0", "C none 0"):
                news = [old[:-1] + str(number) for number in (many, many + 1, 8, 9, 10, -1)]
                self.assert_each_refused(whole, old, news)

    def test_rows_in_another_order(self):
        rows = rows_of(ORDINARY_TEXT)
        for one in range(len(rows)):
            for other in range(one):
                turned = list(rows)
                turned[one], turned[other] = rows[other], rows[one]
                if not is_told(text_of(turned)):
                    self.assert_refused(text_of(turned))
        self.assert_refused(text_of(rows[1:] + rows[:1]))
        self.assert_refused(text_of(reversed(rows)))
        self.assert_refused(text_of(rows[:1] + rows[2:8] + rows[1:2] + rows[8:]))

    def test_a_row_twice_or_left_out(self):
        for text in (ORDINARY_TEXT, PLAIN_TEXT):
            rows = rows_of(text)
            for number in range(len(rows)):
                self.assert_refused(text_of(rows[:number + 1] + rows[number:]))
                self.assert_refused(text_of(rows[:number] + rows[number + 1:]))
                for other in range(len(rows)):
                    if rows[other] != rows[number] and other % 7 != number % 7:
                        self.assert_refused(text_of(rows[:number] + [rows[other]] + rows[number + 1:]))

    def test_other_presses(self):
        for press in "abcABC":
            others = [other for other in "abcABCdD1 _" if other != press] + ["", press * 2, press + ":"]
            self.assert_each_refused(PLAIN_TEXT, press + " none 0", [other + " none 0" for other in others])

    def test_other_deeds(self):
        deeds = ["", "None", "NONE", "non", "nonee", "time", "laps", "stays", "0", "days", "hours", "second", "a", "+"]
        self.assert_each_refused(PLAIN_TEXT, "a none 0", ["a " + deed + " 0" for deed in deeds])
        self.assert_each_refused(PLAIN_TEXT, "a none 0", ["a 0", "a none", "a", "a 0 none", "none 0", "a none 0 0", ""])

    def test_other_faces_and_stays(self):
        faces = ["", "Time", "TIME", "tim", "times", "clock", "none", "hour", "0", "stays"]
        self.assert_each_refused(PLAIN_TEXT, "mode time", ["mode " + face for face in faces])
        rows = ["mode time stay", "mode time Stays", "mode time stays stays", "mode stays time", "mode time True",
                "mode time not", "stays mode time", "mode", "time", "Mode time", "modes time", "mode 0 time", ""]
        self.assert_each_refused(PLAIN_TEXT, "mode time", rows)

    def test_other_heads(self):
        heads = ["", "hold 1", "back 0", "back 0 hold 1", "hold 1 hold 0", "back 1 back 0", "Hold 1 back 0",
                 "hold 1 Back 0", "hold 1 back", "hold back 0", "hold 1 back 0 0", "1 0", "hold 1, back 0",
                 "hold 1\nback 0", "hold 1 back 0 stays", "hold:1 back:0", "book", "hold back 1 0"]
        self.assert_each_refused(PLAIN_TEXT, "hold 1 back 0", heads)

    def test_a_mode_with_fewer_or_more_rows(self):
        rows = rows_of(ORDINARY_TEXT)
        for first in (1, 8, 15):
            for many in range(1, 7):
                self.assert_refused(text_of(rows[:first + 7 - many] + rows[first + 7:]))
        self.assert_refused(ORDINARY_TEXT + "C none 1\n")
        self.assert_refused(ORDINARY_TEXT + "D none 1\n")
        self.assert_refused(ORDINARY_TEXT + "mode time\n")
        for many in range(7):
            self.assert_refused(ORDINARY_TEXT + text_of(rows[1:1 + many]) + "mode laps\n")

    def test_no_modes_and_nine(self):
        self.assert_refused("hold 5 back 33\n")
        self.assert_refused("hold 5 back 33")
        self.assertTrue(is_told("hold 5 back 33\n" + MODE_TEXT * 8))
        for many in (9, 10, 16, 100):
            self.assert_refused("hold 5 back 33\n" + MODE_TEXT * many)
        nine = book_of(9)
        self.assertFalse(is_book(nine))
        self.assert_refused(book_text(nine))

    def test_books_somewhat_beyond_their_bounds(self):
        for hold, back in ((0, 20), (10, 20), (12, 0), (3, 61), (3, 70), (3, -1)):
            text = book_text(book(hold, back))
            self.assertEqual(text, ORDINARY_TEXT.replace("hold 3 back 20", f"hold {hold} back {back}"))
            self.assert_refused(text)

    def test_row_texts(self):
        for text in ("+a -a", ".1", "+a .3 -a\n"):
            self.assert_refused(text)

    def test_two_books(self):
        self.assert_refused(PLAIN_TEXT + PLAIN_TEXT)
        self.assert_refused(PLAIN_TEXT + "\n" + PLAIN_TEXT)

    def test_the_refusal(self):
        told = []
        for again in range(2):
            with self.assertRaises(NoText) as caught:
                read_book("hold 3 back 61\n" + MODE_TEXT)
            self.assertIs(type(caught.exception), NoText)
            self.assertIsInstance(caught.exception, WatchError)
            self.assertNotIsInstance(caught.exception, NoDeed)
            told.append(caught.exception.args)
        same(self, told[0], told[1])


class ReadOrRefused(unittest.TestCase):
    def assert_read_or_refused(self, text):
        """A text is a book's just if that book has this text."""
        try:
            told = read_book(text)
        except NoText:
            self.assertFalse(is_told(text), text)
        else:
            self.assertTrue(is_told(text), text)
            self.assertTrue(is_book(told))
            self.assertEqual(book_text(told), text)

    def test_each_sign_at_each_place(self):
        for text in (PLAIN_TEXT, ORDINARY_TEXT[:80], ORDINARY_TEXT):
            signs = SIGNS if text == PLAIN_TEXT else " \n0127abcAstime-"
            for place in range(len(text) + 1):
                for sign in signs:
                    self.assert_read_or_refused(text[:place] + sign + text[place:])
                    self.assert_read_or_refused(text[:place] + sign + text[place + 1:])
                self.assert_read_or_refused(text[:place] + text[place + 1:])

    def test_each_part_of_a_text(self):
        for place in range(len(ORDINARY_TEXT)):
            self.assert_read_or_refused(ORDINARY_TEXT[:place])
            self.assert_read_or_refused(ORDINARY_TEXT[place:])
            self.assert_read_or_refused(ORDINARY_TEXT[:place] + ORDINARY_TEXT)

    def test_words_put_in_the_place_of_others(self):
        for seed in range(3000):
            chance = Chance(seed)
            words = re.split("([ \n])", chance.pick((ORDINARY_TEXT, PLAIN_TEXT, book_text(chance.dull_book()))))
            for step in range(chance.number(1, 2)):
                words[chance.number(0, len(words) - 1)] = chance.pick(words + list(DEEDS + FACES) + ["stays", "7", "8"])
            self.assert_read_or_refused("".join(words))


class AskedAgain(unittest.TestCase):
    def test_what_is_handed_in_stays_and_the_same_is_told(self):
        for seed in range(50):
            at = Chance(seed).book()
            handed_in = copy.deepcopy(at)
            same(self, book_text(at), book_text(at))
            same(self, read_book(book_text(at)), read_book(book_text(at)))
            same(self, at, handed_in)


if __name__ == "__main__":
    unittest.main()
