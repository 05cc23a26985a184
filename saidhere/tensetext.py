"""Texts of tense sheets."""

from saidhere.plain import check_alphabet
from saidhere.reading import read_sheet
from saidhere.tense import tense_sheet
from saidhere.writing import text_of

GRAMMAR = (("or", "and", "until", "since"), ("not", "next", "prev"), ("yes", "no"), False)


def read_tense(alphabet, text):
    """The sheet of a text."""
    check_alphabet(alphabet)
    return read_sheet(alphabet, GRAMMAR, text)


def write_tense(alphabet, sheet):
    """The text of a sheet."""
    return text_of(tense_sheet(alphabet, sheet))
