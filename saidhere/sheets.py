"""What all sheets have in common: parts of told forms, which refer to parts ahead of them by their numbers."""

from saidhere.errors import BadSheet
from saidhere.kinds import is_below, is_listing
from saidhere.plain import is_letter

MOST_PARTS = 6000
NAMES = "uvwxyz"


def fits(alphabet, kind, number, thing):
    """Whether the thing is of this kind in the part with this number."""
    if kind == "part":
        return is_below(thing, number)
    if kind == "letter":
        return is_letter(alphabet, thing)
    return is_letter(NAMES, thing)


def has_form(alphabet, table, number, part):
    """Whether the part with this number has one of the forms of the table."""
    if not is_listing(part) or len(part) == 0:
        return False
    word = part[0]
    if not isinstance(word, str) or word not in table:
        return False
    kinds = table[word]
    if len(part) != len(kinds) + 1:
        return False
    return all([fits(alphabet, kind, number, thing) for kind, thing in zip(kinds, part[1:])])


def kept_sheet(alphabet, forms, sheet):
    """The sheet as tuples; forms has pairs of a word and the kinds of the things behind it."""
    if not is_listing(sheet) or not 1 <= len(sheet) <= MOST_PARTS:
        raise BadSheet(-1)
    table = dict(forms)
    kept = []
    for number, part in enumerate(sheet):
        if not has_form(alphabet, table, number, part):
            raise BadSheet(number)
        kept.append(tuple(part))
    return tuple(kept)


def referred(part):
    """The numbers of the parts to which a part of a kept sheet refers."""
    return [thing for thing in part[1:] if isinstance(thing, int)]
