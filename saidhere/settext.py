"""Texts of set sheets."""

from saidhere.plain import check_alphabet
from saidhere.plainsets import set_sheet
from saidhere.reading import read_sheet
from saidhere.writing import text_of

GRAMMAR = (("or", "and", "then"), ("not",), ("none", "empty"), False)


def read_set(alphabet, text):
    """The sheet of a text."""
    check_alphabet(alphabet)
    return read_sheet(alphabet, GRAMMAR, text)


def write_set(alphabet, sheet):
    """The text of a sheet."""
    return text_of(set_sheet(alphabet, sheet))
