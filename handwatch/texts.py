"""Books as texts: a head with hold and back, then for each mode a row of its own and one for each press."""

from handwatch.books import DEEDS, FACES, MOST_BACK, MOST_HOLD, MOST_MODES, PRESSES
from handwatch.errors import NoText

MODE_ROWS = 7


def book_text(book):
    rows = ["hold " + str(book[0]) + " back " + str(book[1])]
    for mode in book[2]:
        rows.extend(mode_rows(mode))
    return "".join([row + "\n" for row in rows])


def mode_rows(mode):
    presses = [press_text(PRESSES[number], mode[2][number]) for number in range(len(PRESSES))]
    return [mode_head(mode[0], mode[1])] + presses


def mode_head(face, stays):
    return "mode " + face + (" stays" if stays else "")


def press_text(press, row):
    return press + " " + row[0] + " " + str(row[1])


def read_book(text):
    rows = read_rows(text)
    many = read_many_modes(rows)
    head = read_head(rows[0])
    starts = [1 + number * MODE_ROWS for number in range(many)]
    return (head[0], head[1], tuple([read_mode(rows[start:start + MODE_ROWS], many) for start in starts]))


def read_rows(text):
    rows = text.split("\n")
    # A row end stands behind each row, the last one too, so that nothing is left behind it.
    if rows[-1] != "":
        raise NoText("no row end stands behind " + repr(rows[-1]))
    return rows[:-1]


def read_many_modes(rows):
    many = (len(rows) - 1) // MODE_ROWS
    if not 1 <= many <= MOST_MODES or len(rows) != 1 + many * MODE_ROWS:
        raise NoText("no book has just so many rows: " + str(len(rows)))
    return many


def read_head(row):
    words = row.split(" ")
    if len(words) != 4 or words[0] != "hold" or words[2] != "back":
        raise NoText("no book begins with " + repr(row))
    return (read_number(words[1], 1, MOST_HOLD), read_number(words[3], 0, MOST_BACK))


def read_mode(rows, many):
    head = read_mode_head(rows[0])
    presses = [read_press(PRESSES[number], rows[number + 1], many) for number in range(len(PRESSES))]
    return (head[0], head[1], tuple(presses))


def read_mode_head(row):
    for face in FACES:
        for stays in (False, True):
            if row == mode_head(face, stays):
                return (face, stays)
    raise NoText("no mode begins with " + repr(row))


def read_press(press, row, many):
    words = row.split(" ")
    if len(words) != 3 or words[0] != press or words[1] not in DEEDS:
        raise NoText("the press " + press + " has no row " + repr(row))
    return (words[1], read_number(words[2], 0, many - 1))


def read_number(word, least, most):
    # The numbers within the bounds are few; whatever is the text of none is refused, noughts ahead as well.
    for number in range(least, most + 1):
        if word == str(number):
            return number
    raise NoText("no number from " + str(least) + " to " + str(most) + " is " + repr(word))
