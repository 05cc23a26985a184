"""Marks through a glass: told by what is seen alone, surely, or perhaps."""

from saidhere.alikerows import least_parting, least_unmarked
from saidhere.glasses import check_glass, letters_like, letters_seen_as, seen_letters
from saidhere.leastpair import least
from saidhere.masks import bits_of, mask_of, mask_with
from saidhere.pairs import least_pair
from saidhere.readers import check_most

MOST_SETS = 300


class Through:
    """The pair over the seen alphabet if the mark is told through a glass, otherwise two rows and a place."""

    def __init__(self, holds, pair, row, other, place):
        self.holds = holds
        self.pair = pair
        self.row = row
        self.other = other
        self.place = place

    def __bool__(self):
        return bool(self.holds)


def seen_groups(glass):
    """For each letter of the seen alphabet, the numbers of the letters that are seen as it."""
    return [letters_seen_as(glass, letter) for letter in seen_letters(glass)]


def parted_through(first, second, glass):
    """The least two rows and the place, a mark of the first pair alone, that are alike through the glass; or None."""
    like = letters_like(glass)
    found = least_parting(first, second, like)
    if found is None:
        return None
    row, place = found
    return row, least_unmarked(second, like, row, place), place


def pair_seen(pair, glass):
    """The pair over the seen alphabet of a mark that is told through the glass."""
    firsts = [group[0] for group in seen_groups(glass)]
    left = [tuple([move[first] for first in firsts]) for move in pair.left]
    right = [tuple([move[first] for first in firsts]) for move in pair.right]
    table = [tuple([masks[first] for first in firsts]) for masks in pair.masks]
    return least_pair(seen_letters(glass), left, right, table)


def through(pair, glass):
    """Whether the mark is told through a glass: a Through."""
    check_glass(pair.alphabet, glass)
    small = least(pair)
    parted = parted_through(small, small, glass)
    if parted is not None:
        return Through(False, None, parted[0], parted[1], parted[2])
    return Through(True, pair_seen(small, glass), None, None, None)


def sets_met(reader, groups):
    """The sets of standings to which the rows that show one row lead, as masks, and the moves between them."""
    found = [1]
    numbers = {1: 0}
    moves = []
    while len(moves) < len(found):
        move = []
        standings = bits_of(found[len(moves)])
        for group in groups:
            after = mask_with([reader[standing][letter] for standing in standings for letter in group])
            if after not in numbers:
                numbers[after] = len(found)
                found.append(after)
                check_most(len(found), MOST_SETS, "set")
            move.append(numbers[after])
        moves.append(tuple(move))
    return found, moves


def perhaps_of(small, glass):
    """The least pair over the seen alphabet of the places that are marked in at least one of the rows shown."""
    groups = seen_groups(glass)
    heads, left = sets_met(small.left, groups)
    tails, right = sets_met(small.right, groups)
    table = []
    for head in heads:
        standings = bits_of(head)
        masks = []
        for group in groups:
            ends = 0
            for standing in standings:
                for letter in group:
                    ends = ends | small.masks[standing][letter]
            masks.append(mask_of([tail & ends != 0 for tail in tails]))
        table.append(tuple(masks))
    return least_pair(seen_letters(glass), left, right, table)


def perhaps(pair, glass):
    """The pair over the seen alphabet of the places that are marked in at least one of the rows that show a row."""
    check_glass(pair.alphabet, glass)
    return perhaps_of(least(pair), glass)


def sure(pair, glass):
    """The pair over the seen alphabet of the places that are marked in all rows that show a row.

    What is not sure is what is perhaps not marked; the readers of what is not marked are the same.
    """
    check_glass(pair.alphabet, glass)
    return ~perhaps_of(~pair, glass)
