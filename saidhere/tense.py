"""Tense sheets: formulas of next, prev, until and since, part by part."""

from saidhere.plain import check_alphabet
from saidhere.sheets import kept_sheet, referred

FORMS = (
    ("yes", ()),
    ("no", ()),
    ("letter", ("letter",)),
    ("not", ("part",)),
    ("and", ("part", "part")),
    ("or", ("part", "part")),
    ("next", ("part",)),
    ("prev", ("part",)),
    ("until", ("part", "part")),
    ("since", ("part", "part")),
)
LATER = ("next", "until")
EARLIER = ("prev", "since")
MIRRORED = {"next": "prev", "prev": "next", "until": "since", "since": "until"}


def tense_sheet(alphabet, sheet):
    """The sheet as tuples."""
    check_alphabet(alphabet)
    return kept_sheet(alphabet, FORMS, sheet)


def heights(alphabet, sheet):
    """The height of each part: how deep next, prev, until and since lie within one another in it."""
    told = []
    for part in tense_sheet(alphabet, sheet):
        height = max([told[number] for number in referred(part)], default=0)
        if part[0] in LATER or part[0] in EARLIER:
            height = height + 1
        told.append(height)
    return tuple(told)


def never_of(kept, words):
    """For each part, whether none of these words stands in it or in a part that it needs."""
    told = []
    for part in kept:
        needed = [told[number] for number in referred(part)]
        told.append(part[0] not in words and all(needed))
    return tuple(told)


def pasts(alphabet, sheet):
    """For each part, whether it hangs on the letter and the row ahead alone by its form."""
    return never_of(tense_sheet(alphabet, sheet), LATER)


def comings(alphabet, sheet):
    """For each part, whether it hangs on the letter and the row behind alone by its form."""
    return never_of(tense_sheet(alphabet, sheet), EARLIER)


def mirrored_sheet(alphabet, sheet):
    """The sheet with next and prev exchanged, and until and since."""
    kept = tense_sheet(alphabet, sheet)
    return tuple([(MIRRORED.get(part[0], part[0]),) + part[1:] for part in kept])
