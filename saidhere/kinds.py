"""What kind of thing was passed."""

NAME_LETTERS = "abcdefghijklmnopqrstuvwxyz"
MOST_NAME = 8


def is_whole(thing):
    """Whether the thing is an integer; True and False are none."""
    return isinstance(thing, int) and not isinstance(thing, bool)


def is_below(thing, many):
    """Whether the thing is an integer from 0 and less than many."""
    return is_whole(thing) and 0 <= thing < many


def is_listing(thing):
    """Whether the thing is a tuple, or a list in its place."""
    return isinstance(thing, (tuple, list))


def is_name(thing):
    """Whether the thing is a string of 1 to 8 letters from a to z."""
    if not isinstance(thing, str) or not 1 <= len(thing) <= MOST_NAME:
        return False
    return all([letter in NAME_LETTERS for letter in thing])
