"""Layers at work: what parts two of them, marks that are drawn back through them, sheets that are put in."""

from saidhere.alike import least_unlike_row
from saidhere.errors import BadSheets, TooMany, Unlike
from saidhere.joining import joined_machine
from saidhere.kinds import is_listing
from saidhere.layers import led_row, least_layer, letter_masks, machine_of
from saidhere.leastpair import least
from saidhere.masks import has_bit, spread
from saidhere.pairs import least_pair
from saidhere.plain import check_alphabet
from saidhere.readers import reached_ahead, reached_behind
from saidhere.sheets import MOST_PARTS, renumbered, tidied, wrong_part
from saidhere.tense import FORMS, tense_sheet


def differing(twos):
    """Where one of some masks differs from the other one of its two."""
    found = 0
    for x, y in twos:
        found = found | (x ^ y)
    return found


def unlike_letters(one, other, ahead, behind):
    """For each item of ahead, a mask for each letter: the items of behind with which the layers differ."""
    size = len(one.target)
    first = spread(letter_masks(one.target, one.told), [q for q, s in behind])
    second = spread(letter_masks(one.target, other.told), [s for q, s in behind])
    starts = range(0, size * len(one.alphabet), size)
    table = []
    for p, o in ahead:
        twos = list(zip(first[p], second[o]))
        table.append(tuple([differing(twos[start:start + size]) for start in starts]))
    return table


def parted_layers(one, other):
    """The least placed row whose place gets different letters from two layers, None if there is none."""
    if one.alphabet != other.alphabet:
        raise Unlike("alphabet")
    if one.target != other.target:
        raise Unlike("target")
    ahead, rows, _ = reached_ahead(one.alphabet, (one.left, other.left), None)
    behind, ends, _ = reached_behind(one.alphabet, (one.right, other.right), None)
    row = least_unlike_row(one.alphabet, rows, unlike_letters(one, other, ahead, behind), ends)
    if row is None:
        return None
    return row, [x == y for x, y in zip(led_row(one, row), led_row(other, row))].index(False)


def machine_of_pair(pair):
    """The pair as a machine that tells 1 at the marked places, and 0 at the others."""
    standings = range(len(pair.right))
    told = [[[1 if has_bit(mask, q) else 0 for q in standings] for mask in masks] for masks in pair.masks]
    return pair.left, pair.right, told


def drawn_back(layer, pair):
    """The pair that marks a place if the pair marks it in the row to which the layer leads the row."""
    if layer.target != pair.alphabet:
        raise Unlike("alphabet")
    machine = machine_of(least_layer(layer))
    left, right, table = joined_machine(machine, machine_of_pair(least(pair)), 2)
    return least_pair(layer.alphabet, left, right, [masks[1::2] for masks in table])


def check_sheets(alphabet, target, sheets):
    """Raise BadSheets unless there is a tense sheet over the alphabet for each letter of the target."""
    if not is_listing(sheets) or len(sheets) != len(target):
        raise BadSheets(-1)
    for number, sheet in enumerate(sheets):
        if wrong_part(alphabet, FORMS, sheet) is not None:
            raise BadSheets(number)


def side_by_side(alphabet, sheets):
    """The parts of some tense sheets in one list, and the number of the last part of each."""
    parts = []
    lasts = []
    for sheet in sheets:
        kept = tense_sheet(alphabet, sheet)
        numbers = list(range(len(parts), len(parts) + len(kept)))
        parts = parts + [renumbered(part, numbers) for part in kept]
        lasts.append(len(parts) - 1)
    return parts, lasts


def put_in(alphabet, target, sheets, sheet):
    """The tidy sheet of a sheet over the target, with a sheet over the alphabet in the place of each letter."""
    check_alphabet(alphabet)
    check_alphabet(target)
    check_sheets(alphabet, target, sheets)
    kept = tense_sheet(target, sheet)
    parts, lasts = side_by_side(alphabet, sheets)
    numbers = []
    for part in kept:
        if part[0] == "letter":
            numbers.append(lasts[target.find(part[1])])
        else:
            numbers.append(len(parts))
            parts.append(renumbered(part, numbers))
    tidy = tidied(parts, numbers[-1])
    if len(tidy) > MOST_PARTS:
        raise TooMany("part")
    return tidy
