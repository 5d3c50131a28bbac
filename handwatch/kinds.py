"""Of what kind a thing is: the questions that books and states both ask.

Each may be asked of any thing, and tells True or False.
"""


def is_truth(thing):
    return isinstance(thing, bool)


def is_whole(thing):
    # To Python the truths are ints; here they are no whole numbers.
    return isinstance(thing, int) and not isinstance(thing, bool)


def is_from(thing, least):
    return is_whole(thing) and least <= thing


def is_within(thing, least, most):
    return is_from(thing, least) and thing <= most


def is_one_of(thing, words):
    return isinstance(thing, str) and thing in words


def is_tuple_of(thing, many):
    return isinstance(thing, tuple) and len(thing) == many
