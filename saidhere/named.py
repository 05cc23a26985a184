"""Named sheets: formulas that speak of several named places at once, part by part."""

from saidhere.errors import Free, TooMany
from saidhere.plain import check_alphabet
from saidhere.sheets import NAMES, kept_sheet, referred

FORMS = (
    ("yes", ()),
    ("no", ()),
    ("not", ("part",)),
    ("and", ("part", "part")),
    ("or", ("part", "part")),
    ("letter", ("letter", "name")),
    ("less", ("name", "name")),
    ("same", ("name", "name")),
    ("some", ("name", "part")),
    ("all", ("name", "part")),
)
BINDING = ("some", "all")
MARKING = "x"
MOST_NAMES = 4


def names_in(part):
    """The names that stand in a part itself, in their order, perhaps twice."""
    return [thing for thing in part[1:] if isinstance(thing, str) and thing in NAMES]


def ascending(names):
    """The names as a string in which each stands once."""
    return "".join(sorted(set(names)))


def names_of(kept):
    """All names that stand in a kept sheet, as an ascending string."""
    return ascending([name for part in kept for name in names_in(part)])


def check_names(kept):
    """Raise TooMany if too many names stand in a kept sheet."""
    if len(names_of(kept)) > MOST_NAMES:
        raise TooMany("name")


def named_sheet(alphabet, sheet):
    """The sheet as tuples."""
    check_alphabet(alphabet)
    kept = kept_sheet(alphabet, FORMS, sheet)
    check_names(kept)
    return kept


def frees_of(kept):
    """The free names of each part of a kept sheet, as ascending strings."""
    told = []
    for part in kept:
        names = [name for number in referred(part) for name in told[number]]
        if part[0] in BINDING:
            told.append(ascending([name for name in names if name != part[1]]))
        else:
            told.append(ascending(names + names_in(part)))
    return tuple(told)


def free_names(alphabet, sheet):
    """The free names of each part, as ascending strings."""
    return frees_of(named_sheet(alphabet, sheet))


def marking_sheet(alphabet, sheet):
    """The sheet as tuples, if it tells a mark."""
    kept = named_sheet(alphabet, sheet)
    for name in frees_of(kept)[-1]:
        if name != MARKING:
            raise Free(name)
    return kept


def names_used(alphabet, sheet):
    """All names that stand in the sheet, as an ascending string."""
    return names_of(named_sheet(alphabet, sheet))
