"""Tidy sheets: with the parts alone that the last one needs, in the order in which a text lists them."""

from saidhere.named import named_sheet
from saidhere.plainsets import set_sheet
from saidhere.sheets import tidied
from saidhere.tense import tense_sheet


def tidy_tense(alphabet, sheet):
    """The tidy sheet of a tense sheet."""
    kept = tense_sheet(alphabet, sheet)
    return tidied(kept, len(kept) - 1)


def tidy_named(alphabet, sheet):
    """The tidy sheet of a named sheet."""
    kept = named_sheet(alphabet, sheet)
    return tidied(kept, len(kept) - 1)


def tidy_set(alphabet, sheet):
    """The tidy sheet of a set sheet."""
    kept = set_sheet(alphabet, sheet)
    return tidied(kept, len(kept) - 1)
