"""Glasses: strings that tell as which letters the letters of an alphabet are seen."""

from saidhere.errors import BadGlass
from saidhere.leastpair import least
from saidhere.plain import LETTERS, check_alphabet, check_row


def check_glass(alphabet, thing):
    """Raise BadGlass unless the thing has a letter for each letter of the alphabet."""
    if not isinstance(thing, str) or len(thing) != len(alphabet):
        raise BadGlass(thing)
    if not all([letter in LETTERS for letter in thing]):
        raise BadGlass(thing)


def seen_letters(glass):
    """The letters that are seen, ascending."""
    return "".join(sorted(set(glass)))


def seen_alphabet(alphabet, glass):
    """The letters of the glass, ascending, each once."""
    check_alphabet(alphabet)
    check_glass(alphabet, glass)
    return seen_letters(glass)


def seen_row(alphabet, glass, row):
    """The row that a row shows."""
    check_alphabet(alphabet)
    check_glass(alphabet, glass)
    check_row(alphabet, row)
    return "".join([glass[alphabet.find(letter)] for letter in row])


def letters_seen_as(glass, letter):
    """The numbers of the letters that are seen as a letter."""
    return [number for number, seen in enumerate(glass) if seen == letter]


def letters_like(glass):
    """For each letter, the numbers of the letters that are seen alike."""
    return [letters_seen_as(glass, seen) for seen in glass]


def done_by(small, number):
    """All that a letter does in a least pair: where it leads, and where it is marked."""
    left = [move[number] for move in small.left]
    right = [move[number] for move in small.right]
    return left, right, [masks[number] for masks in small.masks]


def coarsest(pair):
    """The glass that sees as alike as many letters as can be, so that the mark is told through it."""
    small = least(pair)
    deeds = [done_by(small, number) for number in range(len(small.alphabet))]
    return "".join([small.alphabet[deeds.index(deed)] for deed in deeds])
