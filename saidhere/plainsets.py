"""Set sheets: plain sets of rows, part by part, and cuts over them."""

from saidhere.errors import BadCut
from saidhere.kinds import is_below, is_listing
from saidhere.plain import check_alphabet, is_letter
from saidhere.sheets import kept_sheet

FORMS = (
    ("none", ()),
    ("empty", ()),
    ("letter", ("letter",)),
    ("not", ("part",)),
    ("and", ("part", "part")),
    ("or", ("part", "part")),
    ("then", ("part", "part")),
)
MOST_CUTS = 400


def set_sheet(alphabet, sheet):
    """The sheet as tuples."""
    check_alphabet(alphabet)
    return kept_sheet(alphabet, FORMS, sheet)


def is_cut(alphabet, parts, thing):
    """Whether the thing is a cut over a sheet of so many parts."""
    if not is_listing(thing) or len(thing) != 3:
        return False
    return is_below(thing[0], parts) and is_letter(alphabet, thing[1]) and is_below(thing[2], parts)


def kept_cuts(alphabet, parts, cuts):
    """The cuts over a sheet of so many parts, as tuples."""
    if not is_listing(cuts) or len(cuts) > MOST_CUTS:
        raise BadCut(-1)
    for number, cut in enumerate(cuts):
        if not is_cut(alphabet, parts, cut):
            raise BadCut(number)
    return tuple([tuple(cut) for cut in cuts])


def cut_list(alphabet, sheet, cuts):
    """The cuts as tuples."""
    return kept_cuts(alphabet, len(set_sheet(alphabet, sheet)), cuts)
