"""What kind of thing was passed."""


def is_whole(thing):
    """Whether the thing is an integer; True and False are none."""
    return isinstance(thing, int) and not isinstance(thing, bool)


def is_below(thing, many):
    """Whether the thing is an integer from 0 and less than many."""
    return is_whole(thing) and 0 <= thing < many


def is_listing(thing):
    """Whether the thing is a tuple, or a list in its place."""
    return isinstance(thing, (tuple, list))
