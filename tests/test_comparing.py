"""Books compared: [6.1], [6.2], [0.2] (f), [0.3]."""

import copy
import itertools
import unittest

from handwatch.books import is_book
from handwatch.comparing import are_alike, least, parts
from samples import (
    DEEDS, FACES, ORDINARY_BOOK, Chance, book, book_of, chain, mode, put, same, texts_of, walk,
)


def told(at, text):
    """All that counts of a book along a text of presses: the faces, stays and deeds."""
    number = 0
    along = [at[2][0][:2]]
    for press in text:
        deed, number = at[2][number][2]["abcABC".index(press)]
        along.append((deed,) + at[2][number][:2])
    return along


def does_part(one, other, text):
    """Whether behind the text the face or stays is not the same, or its last press does another deed."""
    return told(one, text)[-1] != told(other, text)[-1]


def fewest(one, other):
    """How many presses part two books, None if none do: all pairs of modes, one level after the other."""
    pairs = {(0, 0)}
    if one[2][0][:2] != other[2][0][:2]:
        return 0
    for length in range(1, len(one[2]) * len(other[2]) + 1):
        behind = set()
        for first, second in pairs:
            for row, second_row in zip(one[2][first][2], other[2][second][2]):
                looks = one[2][row[1]][:2], other[2][second_row[1]][:2]
                if row[0] != second_row[0] or looks[0] != looks[1]:
                    return length
                behind.add((row[1], second_row[1]))
        pairs = behind
    return None


def begun_at(at, number):
    """The same book with that mode told as mode 0, and mode 0 in its place."""
    places = list(range(len(at[2])))
    places[0], places[number] = number, 0
    modes = [at[2][place] for place in places]
    return (at[0], at[1], tuple(
        (face, stays, tuple((deed, places[end]) for deed, end in rows)) for face, stays, rows in modes
    ))


def come_to(at):
    """The modes in the order told: by all texts of presses, the shorter ones first, then in the order of the presses."""
    first = {0: ""}
    for length in range(1, len(at[2])):
        ahead = [(text, number) for number, text in first.items() if len(text) == length - 1]
        for text, number in sorted(ahead, key=lambda pair: ["abcABC".index(press) for press in pair[0]]):
            for press in "abcABC":
                first.setdefault(walk(at, press, number), text + press)
    key = lambda number: (len(first[number]), ["abcABC".index(press) for press in first[number]])
    return sorted(first, key=key)


class PartsCase(unittest.TestCase):
    def assert_parts(self, one, other, length):
        """So many presses part them, both ways round; None: they are alike."""
        for first, second in ((one, other), (other, one)):
            text = parts(first, second)
            same(self, are_alike(first, second), length is None)
            if length is None:
                same(self, text, None)
                continue
            self.assertIs(type(text), str)
            self.assertEqual(len(text), length)
            self.assertTrue(set(text) <= set("abcABC"))
            self.assertTrue(does_part(first, second, text))


class Parts(PartsCase):
    def test_the_same_book(self):
        for at in (ORDINARY_BOOK, book_of(1), book_of(8), chain(8, "C")):
            self.assert_parts(at, at, None)
            self.assert_parts(at, copy.deepcopy(at), None)

    def test_first_faces_or_stays(self):
        for one, other in itertools.permutations(FACES, 2):
            self.assert_parts(book(modes=(mode(one),)), book(modes=(mode(other),)), 0)
        self.assert_parts(book(modes=(mode("time", True),)), book(modes=(mode("time", False),)), 0)
        self.assert_parts(ORDINARY_BOOK, put(ORDINARY_BOOK, (2, 0, 0), "laps"), 0)
        self.assert_parts(ORDINARY_BOOK, put(ORDINARY_BOOK, (2, 0, 1), False), 0)

    def test_by_a_deed_alone(self):
        at = book(modes=(mode(),))
        for number, press in enumerate("abcABC"):
            for deed in DEEDS[1:]:
                other = put(at, (2, 0, 2, number, 0), deed)
                self.assert_parts(at, other, 1)
                self.assertEqual(parts(at, other), press)

    def test_by_each_two_deeds(self):
        for one, other in itertools.permutations(DEEDS, 2):
            self.assert_parts(book(modes=(mode(rows=((one, 0),) * 6),)), book(modes=(mode(rows=((other, 0),) * 6),)), 1)

    def test_by_a_deed_behind_some_presses(self):
        for press in "abcABC":
            for number in range(8):
                other = chain(8, press, deeds=("none",) * number + ("run",) + ("none",) * (7 - number))
                self.assert_parts(chain(8, press), other, number + 1)
                self.assertEqual(parts(chain(8, press), other)[:number], press * number)

    def test_by_a_face_or_stays_behind_some_presses(self):
        for press in "abcABC":
            for number in range(8):
                faces = ("time",) * number + ("laps",) + ("time",) * (7 - number)
                stays = (True,) * number + (False,) + (True,) * (7 - number)
                for other in (chain(8, press, faces=faces), chain(8, press, stays=stays)):
                    self.assert_parts(chain(8, press), other, number)
                    self.assertEqual(parts(chain(8, press), other), press * number)

    def test_by_where_a_press_leads(self):
        one = book(modes=(mode("time", True, (("none", 1),) * 6), mode("laps", True)))
        for number, press in enumerate("abcABC"):
            other = put(one, (2, 0, 2, number, 1), 0)
            self.assert_parts(one, other, 1)
            self.assertEqual(parts(one, other), press)

    def test_by_the_shorter_of_two_ways(self):
        far = chain(8, "a", faces=("time",) * 7 + ("laps",))
        near = put(far, (2, 2, 2, 5, 0), "run")
        self.assert_parts(chain(8, "a"), far, 7)
        self.assert_parts(chain(8, "a"), near, 3)
        self.assertEqual(parts(chain(8, "a"), near), "aaC")

    def test_unlike_many_modes(self):
        for many in range(1, 8):
            self.assert_parts(chain(8, "b"), chain(many, "b"), None)
            faces = ("time",) * 7 + ("laps",)
            self.assert_parts(chain(8, "b", faces=faces), chain(many, "b"), 7)

    def test_more_presses_than_modes(self):
        # Rings of 3 and 5 modes with one unlike face each come apart only behind some presses.
        def ring(many, odd):
            modes = [mode("laps" if number == odd else "time", True, (("none", (number + 1) % many),) * 6)
                     for number in range(many)]
            return book(modes=tuple(modes))
        for first, second in ((ring(3, 2), ring(5, 2)), (ring(7, 6), ring(8, 6)), (ring(4, 0), ring(8, 0))):
            self.assert_parts(first, second, fewest(first, second))
        self.assert_parts(ring(3, 2), ring(5, 2), 5)
        self.assert_parts(ring(7, 6), ring(8, 6), 13)

    def test_hold_and_back_do_not_count(self):
        for at in (ORDINARY_BOOK, book_of(8), book_of(1)):
            for hold, back in ((1, 0), (9, 60), (1, 60), (9, 0)):
                self.assert_parts(at, (hold, back, at[2]), None)

    def test_modes_in_another_order(self):
        for at in (ORDINARY_BOOK, book_of(8)):
            for number in range(1, len(at[2])):
                places = list(range(len(at[2])))
                places[1], places[number] = number, 1
                modes = tuple(
                    (face, stays, tuple((deed, places[end]) for deed, end in rows))
                    for face, stays, rows in [at[2][place] for place in places]
                )
                self.assert_parts(at, (at[0], at[1], modes), None)

    def test_modes_told_twice(self):
        one = book(modes=(mode(),))
        two = book(modes=(mode(rows=(("none", 1),) * 6), mode()))
        self.assert_parts(one, two, None)
        self.assert_parts(one, put(two, (2, 1, 2, 3, 0), "full"), 2)

    def test_modes_that_are_not_come_to(self):
        one = book(modes=(mode(),))
        for other in (mode("laps"), mode("time", True), mode(rows=(("run", 1),) * 6)):
            self.assert_parts(one, book(modes=(mode(), other)), None)

    def test_none_with_fewer_presses_parts(self):
        parted = 0
        for seed in range(300):
            chance = Chance(seed)
            one = chance.dull_book()
            other = chance.told_otherwise(one)
            other = put(other, (2, chance.number(0, 7), 2, chance.number(0, 5)), ("full", chance.number(0, 7)))
            length = fewest(one, other)
            self.assert_parts(one, other, length)
            for shorter in range(min(5 if length is None else length, 4)):
                self.assertFalse(any(does_part(one, other, text) for text in texts_of(shorter)))
            parted += length is not None and length > 1
        self.assertGreater(parted, 20)

    def test_one_change(self):
        lengths = set()
        for seed in range(600):
            chance = Chance(seed)
            one = chance.pick((chance.book, chance.dull_book))()
            number = chance.number(0, len(one[2]) - 1)
            press = chance.number(0, 5)
            other = chance.pick((
                put(one, (2, number, 0), chance.pick(FACES)),
                put(one, (2, number, 1), chance.truth()),
                put(one, (2, number, 2, press, 0), chance.pick(DEEDS)),
                put(one, (2, number, 2, press, 1), chance.number(0, len(one[2]) - 1)),
            ))
            self.assert_parts(one, other, fewest(one, other))
            lengths.add(fewest(one, other))
        self.assertLessEqual({None, 0, 1, 2, 3}, lengths)

    def test_told_otherwise(self):
        for seed in range(300):
            chance = Chance(seed)
            one = chance.pick((chance.book, chance.dull_book))()
            self.assert_parts(one, chance.told_otherwise(one), None)


class Least(unittest.TestCase):
    def assert_least(self, at, asked):
        same(self, least(at), asked)
        same(self, least(asked), asked)
        self.assertTrue(is_book(asked))

    def test_one_mode(self):
        for at in (book(modes=(mode(),)), book(modes=(mode("count", True, (("count", 0),) * 6),))):
            self.assert_least(at, at)

    def test_all_parted(self):
        self.assert_least(ORDINARY_BOOK, ORDINARY_BOOK)
        for press in "abcABC":
            at = chain(8, press, faces=("time",) * 7 + ("laps",))
            self.assert_least(at, at)

    def test_told_twice(self):
        at = book(modes=(
            mode("time", True, (("none", 2), ("none", 1)) + (("none", 0),) * 4),
            mode("laps", True, (("run", 0),) * 6),
            mode("laps", True, (("run", 0),) * 6),
        ))
        rows = (("none", 1), ("none", 1)) + (("none", 0),) * 4
        self.assert_least(at, book(modes=(mode("time", True, rows), mode("laps", True, (("run", 0),) * 6))))

    def test_alike_only_all_together(self):
        # No two of them could be put together without the others.
        modes = tuple(mode("time", True, (("run", (number + 1) % 8),) * 6) for number in range(8))
        self.assert_least(book(modes=modes), book(modes=(mode("time", True, (("run", 0),) * 6),)))
        turns = tuple(
            mode("time" if number % 2 == 0 else "laps", True, (("run", (number + 1) % 8),) * 6) for number in range(8)
        )
        asked = (mode("time", True, (("run", 1),) * 6), mode("laps", True, (("run", 0),) * 6))
        self.assert_least(book(modes=turns), book(modes=asked))

    def test_alike_at_first_sight_only(self):
        # Each looks and does as the others, and is parted from the one ahead by one press fewer.
        at = chain(8, "b", deeds=("run",) * 7 + ("lap",))
        self.assert_least(at, at)

    def test_not_come_to(self):
        at = book(modes=(
            mode("time", True, (("none", 3),) * 6), mode("laps"), mode("count", True, (("run", 1),) * 6),
            mode("alarm", False, (("none", 0),) * 6),
        ))
        asked = (mode("time", True, (("none", 1),) * 6), mode("alarm", False, (("none", 0),) * 6))
        self.assert_least(at, book(modes=asked))
        self.assert_least(book(modes=(mode(), mode("laps"))), book(modes=(mode(),)))

    def test_alike_to_one_that_is_not_come_to(self):
        # The second mode is alike to the fourth, and only the fourth is come to.
        at = book(modes=(mode("time", True, (("none", 3),) * 6), mode("laps"), mode("count"), mode("laps")))
        asked = (mode("time", True, (("none", 1),) * 6), mode("laps"))
        self.assert_least(at, book(modes=asked))

    def test_alike_to_mode_0(self):
        at = book(modes=(
            mode("time", True, (("none", 1),) * 6), mode("laps", True, (("none", 2),) * 6),
            mode("time", True, (("none", 1),) * 6),
        ))
        asked = (mode("time", True, (("none", 1),) * 6), mode("laps", True, (("none", 0),) * 6))
        self.assert_least(at, book(modes=asked))

    def test_the_order_by_the_presses(self):
        faces = ("laps", "count", "alarm", "laps", "count", "alarm")
        stays = (True, True, True, False, False, False)
        for order in itertools.permutations(range(6)):
            modes = [mode("time", True, tuple(("none", end + 1) for end in order))]
            for number in range(6):
                press = order.index(number)
                modes.append(mode(faces[press], stays[press]))
            asked = [mode("time", True, tuple(("none", end + 1) for end in range(6)))]
            asked.extend(mode(faces[press], stays[press]) for press in range(6))
            self.assert_least(book(modes=tuple(modes)), book(modes=tuple(asked)))

    def test_the_order_by_fewer_presses_first(self):
        # C leads to the third mode at once, aa to the second one; a leads to the last one.
        first = mode("time", True, (("none", 3), ("none", 0), ("none", 0), ("none", 0), ("none", 0), ("none", 2)))
        last = mode("alarm", True, (("none", 1),) + (("none", 3),) * 5)
        at = book(modes=(first, mode("laps"), mode("count"), last))
        asked = (
            put(put(first, (2, 0, 1), 1), (2, 5, 1), 2), put(put(last, (2,), (("none", 1),) * 6), (2, 0, 1), 3),
            mode("count"), mode("laps"),
        )
        self.assert_least(at, book(modes=asked))

    def test_the_order_by_the_first_press_that_is_unlike(self):
        # b leads to 1, and ba to 3; c leads to 2, and ca to 4; Ca leads to 4 as well.
        still = ("none", 0)
        first = mode("time", True, (still, ("none", 2), ("none", 1), still, still, ("none", 1)))
        at = book(modes=(
            first, mode("laps", True, (("none", 3),) + (still,) * 5), mode("count", True, (still,) * 5 + (("none", 4),)),
            mode("alarm", True), mode("alarm", False),
        ))
        asked = book(modes=(
            mode("time", True, (still, ("none", 1), ("none", 2), still, still, ("none", 2))),
            mode("count", True, (still,) * 5 + (("none", 3),)), mode("laps", True, (("none", 4),) + (still,) * 5),
            mode("alarm", False), mode("alarm", True),
        ))
        self.assert_least(at, asked)

    def test_hold_and_back_are_its_own(self):
        for hold, back in ((1, 0), (9, 60), (1, 60), (9, 0), (4, 17)):
            at = (hold, back, (mode(rows=(("none", 1),) * 6), mode()))
            self.assert_least(at, (hold, back, (mode(),)))

    def test_books_that_are_told_otherwise(self):
        for seed in range(400):
            chance = Chance(seed)
            one = chance.pick((chance.book, chance.dull_book))()
            other = chance.told_otherwise(one)
            same(self, least(other)[2], least(one)[2])
            same(self, least(other)[:2], other[:2])
            same(self, least(one)[:2], one[:2])

    def test_alike_a_book_and_of_the_fewest_modes(self):
        sizes = set()
        for seed in range(500):
            chance = Chance(seed)
            at = chance.dull_book()
            told_least = least(at)
            self.assertTrue(is_book(told_least))
            self.assertIsNone(fewest(at, told_least))
            same(self, least(told_least), told_least)
            numbers = range(len(told_least[2]))
            # As many modes as there are, all come to, each two of them parted: no alike book has fewer.
            self.assertEqual(come_to(told_least), list(numbers))
            for one, other in itertools.combinations(numbers, 2):
                self.assertIsNotNone(fewest(begun_at(told_least, one), begun_at(told_least, other)))
            sizes.add((len(at[2]), len(told_least[2])))
        self.assertLessEqual({(8, 1), (8, 3), (3, 3), (1, 1)}, sizes)

    def test_nine_modes(self):
        nine = (True,) * 9
        at = chain(9, "A", deeds=("run",) * 9, faces=("time",) * 8 + ("laps",), stays=nine)
        same(self, least(at), at)
        same(self, least(chain(9, "A", deeds=("run",) * 9, faces=("time",) * 9, stays=nine)),
             (2, 0, (mode("time", True, (("run", 0),) * 6),)))


class AskedAgain(unittest.TestCase):
    def test_what_is_handed_in_stays_and_the_same_is_told(self):
        for seed in range(100):
            chance = Chance(seed)
            one, other = chance.book(), chance.dull_book()
            handed_in = copy.deepcopy((one, other))
            for first, second in itertools.product((one, other), repeat=2):
                same(self, parts(first, second), parts(first, second))
                same(self, are_alike(first, second), are_alike(first, second))
                same(self, are_alike(first, second), parts(first, second) is None)
                same(self, least(first), least(first))
            same(self, (one, other), handed_in)


if __name__ == "__main__":
    unittest.main()
