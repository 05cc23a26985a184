"""Derivations of named sheets are judged, step by step."""

from saidhere.flagsteps import first_wrong_step
from saidhere.named import frees_of, named_sheet


def first_wrong_named(alphabet, sheet, readers):
    """The number of the first step of a derivation that is not right, the number of parts if all are."""
    kept = named_sheet(alphabet, sheet)
    return first_wrong_step(alphabet, kept, frees_of(kept), readers)
