"""A watch: a book, what happened to its watch so far, and the way back.

Of each event it keeps, as (event, state, rung), the state and how many rings there were ahead of it.
"""

from handwatch.errors import NoDeed
from handwatch.going import gone, shown
from handwatch.ringing import how_many_rings
from handwatch.states import begun


class Watch:
    def __init__(self, book):
        self.book = book
        self.present = begun(book)
        self.rung = 0
        self.past = []

    def down(self, button):
        self.happen(("down", button))

    def up(self, button):
        self.happen(("up", button))

    def ticks(self, many):
        self.happen(("ticks", many))

    def happen(self, event):
        behind = gone(self.book, self.present, event)
        rung = self.rung + rings_by(self.book, self.present, event)
        self.past.append((event, self.present, self.rung))
        self.present = behind
        self.rung = rung

    def shown(self):
        return shown(self.book, self.present)

    def state(self):
        return self.present

    def rang(self):
        return self.rung

    def undo(self):
        if len(self.past) == 0:
            raise NoDeed("nothing is left that could be taken back")
        last = self.past.pop()
        self.present = last[1]
        self.rung = last[2]

    def row(self):
        return tuple([step[0] for step in self.past])


def rings_by(book, state, event):
    return how_many_rings(book, state, event[1]) if event[0] == "ticks" else 0
