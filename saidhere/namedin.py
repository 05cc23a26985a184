"""The derivation of a named sheet: the least flag reader of each of its parts."""

from saidhere.flagsteps import derivation
from saidhere.named import frees_of, named_sheet


def derive_named(alphabet, sheet):
    """The least flag reader of each part, in their order."""
    kept = named_sheet(alphabet, sheet)
    return derivation(alphabet, kept, frees_of(kept))
