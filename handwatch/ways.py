"""Ways through the modes of a book, by presses.

A way is a text of presses, each of which leads from a mode to its next. That a press does nothing but stop the ringing
is left aside here: a book alone does not tell when its watch rings.
"""

from handwatch.books import PRESSES


def reach(book):
    return tuple(sorted(ways_from(book, 0)))


def way_to(book, mode):
    return ways_from(book, 0).get(mode)


def trapped(book):
    return tuple([mode for mode in range(len(book[2])) if is_trapped(book, mode)])


def is_trapped(book, mode):
    return not any([leads_home(book, end) for end in ways_from(book, mode)])


def leads_home(book, mode):
    return mode == 0 or (book[1] > 0 and not book[2][mode][1])


def ways_from(book, mode):
    return first_ways(mode, lambda place: nexts(book[2][place]))


def nexts(mode):
    return [row[1] for row in mode[2]]


def first_ways(start, nexts_of):
    # What is come to by fewer presses is found first, and of that what an earlier press leads to: the dict keeps this
    # order, and least numbers its modes by it.
    ways = {start: ""}
    newest = [start]
    while len(newest) > 0:
        newest = one_press_on(ways, newest, nexts_of)
    return ways


def one_press_on(ways, newest, nexts_of):
    found = []
    for place in newest:
        ends = nexts_of(place)
        for number in range(len(PRESSES)):
            if ends[number] not in ways:
                ways[ends[number]] = ways[place] + PRESSES[number]
                found.append(ends[number])
    return found
