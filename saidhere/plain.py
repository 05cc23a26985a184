"""Alphabets, rows of their letters, and places in rows."""

from saidhere.errors import BadAlphabet, BadNumber, BadPlace, BadRow
from saidhere.kinds import is_below, is_whole

LETTERS = "abcdefgh"
MOST_LETTERS = 200
MOST_EACH = 12


def is_alphabet(thing):
    """Whether the thing is a string of 1 to 8 different letters from a to h, ascending."""
    if not isinstance(thing, str) or not 1 <= len(thing) <= len(LETTERS):
        return False
    known = all([letter in LETTERS for letter in thing])
    return known and all([one < other for one, other in zip(thing, thing[1:])])


def check_alphabet(thing):
    """Raise BadAlphabet unless the thing is an alphabet."""
    if not is_alphabet(thing):
        raise BadAlphabet(thing)


def is_letter(alphabet, thing):
    """Whether the thing is a letter of the alphabet."""
    return isinstance(thing, str) and len(thing) == 1 and thing in alphabet


def wrong_at(alphabet, thing):
    """Where the thing stops being a row: -1 for the whole of it, None if it is a row."""
    if not isinstance(thing, str) or len(thing) > MOST_LETTERS:
        return -1
    for at, letter in enumerate(thing):
        if letter not in alphabet:
            return at
    return None


def is_row(alphabet, thing):
    """Whether the thing is a row over the alphabet, of at most 200 letters."""
    return wrong_at(alphabet, thing) is None


def is_long_row(alphabet, thing):
    """Whether the thing is a row over the alphabet, however long."""
    return isinstance(thing, str) and thing.strip(alphabet) == ""


def check_row(alphabet, thing):
    """Raise BadRow unless the thing is a row over the alphabet, of at most 200 letters."""
    at = wrong_at(alphabet, thing)
    if at is not None:
        raise BadRow(at)


def check_place(row, thing):
    """Raise BadPlace unless the thing is a place of the row."""
    if not is_below(thing, len(row)):
        raise BadPlace(thing)


def row_after(alphabet, row):
    """The next greater row of the same length, None behind the last one."""
    stem = row.rstrip(alphabet[-1])
    if stem == "":
        return None
    letter = alphabet[alphabet.find(stem[-1]) + 1]
    return stem[:-1] + letter + alphabet[0] * (len(row) - len(stem))


def each_row(alphabet, most):
    """All rows over the alphabet with at most that many letters, one by one, from the least on."""
    check_alphabet(alphabet)
    if not is_whole(most) or not 0 <= most <= MOST_EACH:
        raise BadNumber(most)
    for length in range(most + 1):
        row = alphabet[0] * length
        while row is not None:
            yield row
            row = row_after(alphabet, row)
