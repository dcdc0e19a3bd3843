"""Whole numbers, as all parts of the program take them."""


def is_whole(thing, least):
    """Whether the thing is a whole number from the least one on; True and False are none."""
    return isinstance(thing, int) and not isinstance(thing, bool) and thing >= least
