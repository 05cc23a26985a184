"""The derivation of a set sheet: the least flag reader, without names, of each of its parts."""

from saidhere.flagsteps import derivation
from saidhere.plainsets import set_sheet


def derive_sets(alphabet, sheet):
    """The least flag reader of each part, in their order."""
    kept = set_sheet(alphabet, sheet)
    return derivation(alphabet, kept, ["" for _ in kept])
