"""Books compared: what parts them, and the least book of those that are alike.

Hold and back do not count for it. A pair is a mode of each of two books, to which the same presses lead in them.
"""

from handwatch.books import PRESSES
from handwatch.ways import first_ways, nexts


def are_alike(one, other):
    return parts(one, other) is None


def parts(one, other):
    ways = first_ways((0, 0), lambda pair: pair_nexts(one[2][pair[0]], other[2][pair[1]]))
    texts = []
    for pair in ways:
        texts.extend([ways[pair] + last for last in partings(one[2][pair[0]], other[2][pair[1]])])
    return min(texts, key=len, default=None)


def pair_nexts(one, other):
    return list(zip(nexts(one), nexts(other)))


def partings(one, other):
    # Modes that look unlike are parted by no further press.
    if looks(one) != looks(other):
        return [""]
    return [PRESSES[number] for number in range(len(PRESSES)) if deeds_of(one)[number] != deeds_of(other)[number]]


def looks(mode):
    return (mode[0], mode[1])


def deeds_of(mode):
    return [row[0] for row in mode[2]]


def least(book):
    modes = book[2]
    heads = alike_heads(modes)
    order = list(first_ways(0, lambda head: heads_of_nexts(modes[head], heads)))
    return (book[0], book[1], tuple([led_by(modes[head], heads, order) for head in order]))


def alike_heads(modes):
    # For each mode the first one that is alike to it: those that one press tells apart are parted until none does.
    heads = first_places([(looks(mode), deeds_of(mode)) for mode in modes])
    finer = parted_once(modes, heads)
    while finer != heads:
        heads = finer
        finer = parted_once(modes, heads)
    return heads


def parted_once(modes, heads):
    return first_places([(heads[number], heads_of_nexts(modes[number], heads)) for number in range(len(modes))])


def first_places(things):
    return [things.index(thing) for thing in things]


def heads_of_nexts(mode, heads):
    return [heads[number] for number in nexts(mode)]


def led_by(mode, heads, order):
    rows = [(row[0], order.index(heads[row[1]])) for row in mode[2]]
    return (mode[0], mode[1], tuple(rows))
