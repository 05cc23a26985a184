"""What sheets and cuts say of one row, by definition."""

from saidhere.errors import BadPlaces, TooLong
from saidhere.factors import factor_tables, has_factor
from saidhere.kinds import is_below
from saidhere.masks import has_bit
from saidhere.named import MARKING, frees_of, marking_sheet, named_sheet
from saidhere.placings import last_held
from saidhere.plain import check_row
from saidhere.plainsets import kept_cuts, set_sheet
from saidhere.tense import tense_sheet

MOST_NAMED = 12


def nexts(held):
    """Where there is a next place, and this holds there."""
    return held[1:] + [False] if held else []


def prevs(held):
    """Where there is a place directly before, and this holds there."""
    return [False] + held[:-1] if held else []


def sinces(between, reached):
    """For each place, whether the one thing was reached at an earlier place, and the other holds between them."""
    told = []
    holds = False
    for way, aim in zip(between, reached):
        told.append(holds)
        holds = aim or (way and holds)
    return told


def untils(between, reached):
    """For each place, whether the one thing is reached at a later place, and the other holds between them."""
    return sinces(between[::-1], reached[::-1])[::-1]


def held_at(part, row, held):
    """For each place of the row, whether the part holds there, from what is told of the parts ahead."""
    word = part[0]
    if word in ("yes", "no"):
        return [word == "yes" for _ in row]
    if word == "letter":
        return [letter == part[1] for letter in row]
    first = held[part[1]]
    if word == "not":
        return [not x for x in first]
    if word == "next":
        return nexts(first)
    if word == "prev":
        return prevs(first)
    second = held[part[2]]
    if word == "and":
        return [x and y for x, y in zip(first, second)]
    if word == "or":
        return [x or y for x, y in zip(first, second)]
    return untils(first, second) if word == "until" else sinces(first, second)


def tense_marks(alphabet, sheet, row):
    """For each place of the row, whether the last part of a tense sheet holds there."""
    kept = tense_sheet(alphabet, sheet)
    check_row(alphabet, row)
    held = []
    for part in kept:
        held.append(held_at(part, row, held))
    return tuple(held[-1])


def check_short_row(alphabet, row):
    """Raise an error unless the row is one of which named sheets are told."""
    check_row(alphabet, row)
    if len(row) > MOST_NAMED:
        raise TooLong(len(row))


def is_places(names, row, thing):
    """Whether the thing is a dict with a place of the row for each of these names."""
    if not isinstance(thing, dict) or len(thing) != len(names):
        return False
    return all([name in thing and is_below(thing[name], len(row)) for name in names])


def named_holds(alphabet, sheet, row, places):
    """Whether the last part of a named sheet holds with these places of its free names."""
    kept = named_sheet(alphabet, sheet)
    check_short_row(alphabet, row)
    if not is_places(frees_of(kept)[-1], row, places):
        raise BadPlaces(places)
    placings, mask = last_held(kept, row)
    return has_bit(mask, placings.placing_at(places))


def named_marks(alphabet, sheet, row):
    """For each place of the row, whether the last part of a named sheet holds with x naming it."""
    kept = marking_sheet(alphabet, sheet)
    check_short_row(alphabet, row)
    placings, mask = last_held(kept, row)
    step = placings.steps.get(MARKING, 0)
    return tuple([has_bit(mask, place * step) for place in range(len(row))])


def cut_marks(alphabet, sheet, cuts, row):
    """For each place of the row, whether a cut applies there."""
    kept = set_sheet(alphabet, sheet)
    applied = kept_cuts(alphabet, len(kept), cuts)
    check_row(alphabet, row)
    wanted = [number for cut in applied for number in (cut[0], cut[2])]
    tables = factor_tables(kept, row, wanted)
    told = []
    for place, letter in enumerate(row):
        here = [(tables[i], tables[j]) for i, a, j in applied if a == letter]
        ends = place + 1, len(row)
        told.append(any([has_factor(x, 0, place) and has_factor(y, ends[0], ends[1]) for x, y in here]))
    return tuple(told)


def set_has(alphabet, sheet, row):
    """Whether the last part of a set sheet has the row."""
    kept = set_sheet(alphabet, sheet)
    check_row(alphabet, row)
    last = len(kept) - 1
    return has_factor(factor_tables(kept, row, [last])[last], 0, len(row))
