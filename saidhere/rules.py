"""Rules: two sheets that speak of any marks; whether they always tell the same, and how a sheet is rewritten."""

from saidhere.alike import alike
from saidhere.errors import BadFilling, BadNumber, BadRuleSheet, NoMatch, TooMany
from saidhere.kinds import is_below, is_listing
from saidhere.plain import LETTERS
from saidhere.sheets import MOST_PARTS, renumbered, tidied, wrong_part
from saidhere.tense import tense_sheet
from saidhere.tensein import Derivation

RULE_FORMS = (
    ("yes", ()),
    ("no", ()),
    ("mark", ("mark",)),
    ("not", ("part",)),
    ("and", ("part", "part")),
    ("or", ("part", "part")),
    ("next", ("part",)),
    ("prev", ("part",)),
    ("until", ("part", "part")),
    ("since", ("part", "part")),
)


class Soundness:
    """Whether the two sheets of a rule tell the same mark, whatever the marks are; if not, the least placed row."""

    def __init__(self, holds, row, place):
        self.holds = holds
        self.row = row
        self.place = place

    def __bool__(self):
        return bool(self.holds)


def kept_rule(thing):
    """The two sheets of a rule, as tuples."""
    if not is_listing(thing) or len(thing) != 2:
        raise BadRuleSheet(0, -1)
    for which, sheet in enumerate(thing):
        number = wrong_part("", RULE_FORMS, sheet)
        if number is not None:
            raise BadRuleSheet(which, number)
    return [tuple([tuple(part) for part in sheet]) for sheet in thing]


def size_of(sheets):
    """How many marks a rule speaks of: 1 more than the greatest number of one."""
    return max([part[1] + 1 for sheet in sheets for part in sheet if part[0] == "mark"], default=0)


def sound(rule):
    """Whether both sheets tell the same mark for all alphabets and all marks: a Soundness.

    All that can be said of the marks at a place is which of them have it: a letter for each choice tells it.
    """
    sheets = kept_rule(rule)
    alphabet = LETTERS[:1 << size_of(sheets)]
    derivation = Derivation(alphabet)
    lasts = [derivation.numbers_of(sheet)[-1] for sheet in sheets]
    found = alike(derivation.pairs[lasts[0]], derivation.pairs[lasts[1]])
    return Soundness(found.holds, found.row, found.place)


def check_filling(number, size, thing):
    """Raise BadFilling unless the thing has so many numbers of parts up to the one with this number."""
    if not is_listing(thing) or len(thing) != size:
        raise BadFilling(-1)
    for at, filling in enumerate(thing):
        if not is_below(filling, number + 1):
            raise BadFilling(at)


def filled(parts, sheet, numbers):
    """The parts with those of a rule sheet behind them that is filled, and the number of its last part there."""
    told = list(parts)
    places = []
    for part in sheet:
        if part[0] == "mark":
            places.append(numbers[part[1]])
        else:
            places.append(len(told))
            told.append(renumbered(part, places))
    return told, places[-1]


def replaced(kept, number, sheet, numbers):
    """The tidy sheet with a filled rule sheet in the place of a part."""
    told, instead = filled(kept[:number + 1], sheet, numbers)
    places = list(range(number)) + [instead]
    for part in kept[number + 1:]:
        places.append(len(told))
        told.append(renumbered(part, places))
    return tidied(told, places[-1])


def rewritten(alphabet, sheet, number, rule, numbers):
    """The sheet rewritten at one of its parts by a rule that is filled with parts."""
    kept = tense_sheet(alphabet, sheet)
    if not is_below(number, len(kept)):
        raise BadNumber(number)
    sheets = kept_rule(rule)
    check_filling(number, size_of(sheets), numbers)
    told, last = filled(kept[:number + 1], sheets[0], numbers)
    if tidied(told, last) != tidied(kept, number):
        raise NoMatch()
    tidy = replaced(kept, number, sheets[1], numbers)
    if len(tidy) > MOST_PARTS:
        raise TooMany("part")
    return tidy
