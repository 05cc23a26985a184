"""Machines of the parts of set sheets that are not made of others alike in named sheets."""

from saidhere.flagmachines import explored
from saidhere.flags import MOST_MOVES
from saidhere.subsets import Subsets


def short_machine(alphabet, part):
    """The machine of no row, of the empty row, or of the row of one letter."""
    if part[0] == "none":
        return [tuple([0 for _ in alphabet])], [False]
    if part[0] == "empty":
        away = tuple([1 for _ in alphabet])
        return [away, away], [True, False]
    away = tuple([2 for _ in alphabet])
    return [tuple([1 if letter == part[1] else 2 for letter in alphabet]), away, away], [False, True, False]


def then_machine(first, second):
    """The machine of the rows that can be parted in one of the first machine and one of the second.

    The standings are those of the first one, and those of the second one behind a row of the first.
    """
    many = len(first[0])
    begins = [(1 << at) | (1 << many if good else 0) for at, good in enumerate(first[1])]
    ahead = [[begins[follower] for follower in move] for move in first[0]]
    behind = [[1 << (many + follower) for follower in move] for move in second[0]]
    goal = sum([1 << (many + at) for at, good in enumerate(second[1]) if good])
    return explored(Subsets(ahead + behind, begins[0], goal, MOST_MOVES))
