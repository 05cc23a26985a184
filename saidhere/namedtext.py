"""Texts of named sheets."""

from saidhere.named import check_names, named_sheet
from saidhere.plain import check_alphabet
from saidhere.reading import read_sheet
from saidhere.writing import text_of

GRAMMAR = (("or", "and"), ("not", "some", "all"), ("yes", "no"), True)


def read_named(alphabet, text):
    """The sheet of a text."""
    check_alphabet(alphabet)
    kept = read_sheet(alphabet, GRAMMAR, text)
    check_names(kept)
    return kept


def write_named(alphabet, sheet):
    """The text of a sheet."""
    return text_of(named_sheet(alphabet, sheet))
