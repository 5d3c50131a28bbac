"""The refusals of the program."""


class WatchError(ValueError):
    """Any refusal."""


class NoText(WatchError):
    """A text that is none of those which can be read."""


class NoDeed(WatchError):
    """There is nothing that could be taken back."""
