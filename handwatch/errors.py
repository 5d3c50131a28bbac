"""The refusals of the program.

WatchError is any of them; NoText refuses a text that can't be read, NoDeed to take back what was never done.
"""


class WatchError(ValueError):
    pass


class NoText(WatchError):
    pass


class NoDeed(WatchError):
    pass
