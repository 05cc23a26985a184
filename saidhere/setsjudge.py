"""Derivations of set sheets are judged, step by step."""

from saidhere.flagsteps import first_wrong_step
from saidhere.plainsets import set_sheet


def first_wrong_sets(alphabet, sheet, readers):
    """The number of the first step of a derivation that is not right, the number of parts if all are."""
    kept = set_sheet(alphabet, sheet)
    return first_wrong_step(alphabet, kept, ["" for _ in kept], readers)
