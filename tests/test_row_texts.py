"""Texts of rows: [3.2], [0.2] (a), [0.3]."""

import copy
import itertools
import unittest

from handwatch.errors import NoText
from handwatch.rows import read_row, row_text
from samples import Chance, same

TEXTS = (
    ((), ""),
    ((("down", "a"),), "+a"),
    ((("down", "b"),), "+b"),
    ((("down", "c"),), "+c"),
    ((("up", "a"),), "-a"),
    ((("up", "b"),), "-b"),
    ((("up", "c"),), "-c"),
    ((("ticks", 1),), ".1"),
    ((("ticks", 10),), ".10"),
    ((("ticks", 86400),), ".86400"),
    ((("ticks", 10 ** 40 + 7),), ".1" + "0" * 39 + "7"),
    ((("down", "a"), ("up", "a")), "+a -a"),
    ((("down", "a"), ("ticks", 3), ("up", "a"), ("ticks", 20)), "+a .3 -a .20"),
    ((("ticks", 5), ("ticks", 5), ("up", "c"), ("up", "c")), ".5 .5 -c -c"),
)

MANY_FIGURES = (
    (10 ** 6000, "1" + "0" * 6000),
    (10 ** 6000 - 1, "9" * 6000),
    (10 ** 4999 + 3, "1" + "0" * 4998 + "3"),
)

NEAR = (
    ".0", ".00", ".01", ".007", ".", ".-1", ".+1", ".1.", "..1", ".1a", ".a", ".1_0", ".1,0", ".1e3", ". 1", ".1 .0",
    "+a  -a", " +a", "+a ", " ", "  ", " .1", ".1 ", "+a -a ", " +a -a", "+ a", "- a",
    "\n", "+a\n", "\n+a", "+a\n-a", ".1\n", ".1\n.2", ".\n1", "+\n", "+a \n-a",
    "+d", "-d", "+A", "-B", "+C", "+", "-", "a", "b", "1", "86400", "+ab", "-cc", "+aa", "+1", "-1", "+.", "+-a", "-+a",
    "+a-a", "+a,-a", "+a.1", ".1+a", "+a a", "a+", "1.", "*a", "=a", "_a", ":1", "!1", "~", "~a", "()", "[]", "None",
    "down a", "up a", "ticks 1", "+a +", "+a -", "+a .", "-a x -a",
)


class RowText(unittest.TestCase):
    def test_each_kind_of_event(self):
        for row, text in TEXTS:
            same(self, row_text(row), text)

    def test_more_figures_than_python_writes_by_itself(self):
        for many, text in MANY_FIGURES:
            self.assertTrue(row_text((("ticks", many),)) == "." + text)


class ReadRow(unittest.TestCase):
    def test_each_kind_of_event(self):
        for row, text in TEXTS:
            same(self, read_row(text), row)

    def test_each_number_of_figures(self):
        for many in range(1, 60):
            number = int("9876543210" * 6) // 10 ** (60 - many)
            same(self, read_row("." + str(number)), (("ticks", number),))
            same(self, read_row(".1" + "0" * many), (("ticks", 10 ** many),))

    def test_more_figures_than_python_reads_by_itself(self):
        for many, text in MANY_FIGURES:
            self.assertTrue(read_row("." + text) == (("ticks", many),))
        with self.assertRaises(NoText):
            read_row(".0" + "9" * 6000)
        with self.assertRaises(NoText):
            read_row("." + "9" * 6000 + "x")

    def test_texts_that_are_near(self):
        for text in NEAR:
            with self.subTest(text=text):
                with self.assertRaises(NoText):
                    read_row(text)

    def test_each_sign_at_each_place(self):
        for text in ("+a .12 -b", ".30"):
            for place in range(len(text) + 1):
                for sign in [chr(number) for number in range(32, 127)] + ["\n"]:
                    self.assert_read_or_refused(text[:place] + sign + text[place:])
                    self.assert_read_or_refused(text[:place] + sign + text[place + 1:])
                self.assert_read_or_refused(text[:place] + text[place + 1:])

    def test_all_short_texts(self):
        for length in range(5):
            for signs in itertools.product("+-.a0 1\n", repeat=length):
                self.assert_read_or_refused("".join(signs))

    def assert_read_or_refused(self, text):
        """A text is a row's just if that row has this text."""
        try:
            row = read_row(text)
        except NoText:
            self.assertNotRegex(text, r"\A(|([+-][abc]|\.[1-9][0-9]*)( ([+-][abc]|\.[1-9][0-9]*))*)\Z")
        else:
            self.assertEqual(row_text(row), text)


class BothWays(unittest.TestCase):
    def test_a_row_and_its_text_tell_one_another(self):
        for seed in range(300):
            row = Chance(seed).row(20)
            same(self, read_row(row_text(row)), row)

    def test_what_is_handed_in_stays_and_the_same_is_told(self):
        for seed in range(50):
            row = Chance(seed).row()
            ahead = copy.deepcopy(row)
            same(self, row_text(row), row_text(row))
            same(self, read_row(row_text(row)), read_row(row_text(row)))
            same(self, row, ahead)


if __name__ == "__main__":
    unittest.main()
