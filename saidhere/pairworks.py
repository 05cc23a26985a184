"""Pairs at work: the mirrored pair, and the placed rows that a pair marks."""

from saidhere.machines import mirrored_masks
from saidhere.pairs import least_pair, marks_in
from saidhere.plain import each_row


def mirrored(pair):
    """The least pair that marks of each reversed row the places that the pair marks of the row."""
    left, right, table = mirrored_masks(pair.left, pair.right, pair.masks)
    return least_pair(pair.alphabet, left, right, table)


def marked_rows(pair, most):
    """All placed rows of at most that many letters that are marked, one by one, from the least on."""
    for row in each_row(pair.alphabet, most):
        for place, marked in enumerate(marks_in(pair, row)):
            if marked:
                yield row, place
