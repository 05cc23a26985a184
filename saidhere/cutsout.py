"""Cuts of steady marks."""

from saidhere.errors import TooMany
from saidhere.formulas import SetFormulas
from saidhere.plainparts import leading_sets
from saidhere.sheets import MOST_PARTS
from saidhere.shortening import SetMeanings, shortened
from saidhere.splitting import ORDERS, chosen, split_pieces, steady_pair


def both_sides(small, told, order):
    """The formulas, and the numbers of the sets of each piece: those ahead of the letter, and then those behind it."""
    formulas = SetFormulas()
    left = leading_sets(formulas, small.alphabet, small.left, order)
    ahead = [chosen(formulas, left, 1 << piece[0]) for piece in told]
    # A right reader reads the reversed rows.
    formulas.mirrored = True
    right = leading_sets(formulas, small.alphabet, small.right, order)
    behind = [chosen(formulas, right, piece[2]) for piece in told]
    return formulas, ahead + behind


def shortest_sets(small, told):
    """The shortest of the sheets that are made, and the numbers of the sets in it."""
    found = None
    for order in ORDERS:
        try:
            formulas, wanted = both_sides(small, told, order)
        except TooMany:
            continue
        made = shortened(formulas.parts, wanted, SetMeanings(small.alphabet))
        if found is None or len(made[0]) < len(found[0]):
            found = made
    if found is None or len(found[0]) > MOST_PARTS:
        raise TooMany("part")
    return found


def cuts_of(pair):
    """A set sheet and cuts of the mark of a pair."""
    small = steady_pair(pair)
    told = split_pieces(small)
    if not told:
        return (("none",),), ()
    sheet, numbers = shortest_sets(small, told)
    many = len(told)
    places = list(zip(numbers[:many], told, numbers[many:]))
    return tuple(sheet), tuple([(i, small.alphabet[piece[1]], j) for i, piece, j in places])
