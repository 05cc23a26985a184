"""Machines: a left reader, a right reader, and masks, of any size.

For each standing of the left reader the masks tell sets of standings of the right reader, one for
each question that is asked at a place: a pair asks one for each letter, a layer one for each letter
and each letter of its target. The least machine gives the same answers for all rows with as few
standings as can be.
"""

from saidhere.masks import has_bit, mask_of
from saidhere.readers import MOST_STANDINGS, check_most, reached_ahead, reached_behind


def numbered(things):
    """A number for each thing, in the order in which different ones first come."""
    found = {}
    numbers = []
    for thing in things:
        if thing not in found:
            found[thing] = len(found)
        numbers.append(found[thing])
    return numbers


def refined(moves, colours, most):
    """The class of each standing: those are alike from which the same letters lead to the same colours.

    More classes than most are an error as soon as they are found, since parting only goes on.
    """
    numbers = numbered(colours)
    while True:
        many = max(numbers) + 1
        check_most(many, most)
        told = [tuple([numbers[follower] for follower in move]) for move in moves]
        newer = numbered(list(zip(numbers, told)))
        if max(newer) + 1 == many:
            return numbers
        numbers = newer


def firsts_of(numbers):
    """For each class, the first standing that has it."""
    found = {}
    for standing, number in enumerate(numbers):
        if number not in found:
            found[number] = standing
    return [found[number] for number in range(len(found))]


def class_moves(moves, numbers, firsts):
    """The moves of the classes."""
    return [tuple([numbers[follower] for follower in moves[standing]]) for standing in firsts]


def column_of(table, standing):
    """What all masks of a table tell of one standing of the right reader, as one integer."""
    return mask_of([has_bit(mask, standing) for masks in table for mask in masks])


def picked(masks, standings):
    """The masks over these standings alone, numbered anew in this order."""
    return tuple([mask_of([has_bit(mask, standing) for standing in standings]) for mask in masks])


def least_machine(alphabet, left, right, table):
    """The least machine with the same answers: its left reader, its right reader, its table of masks.

    Standings to which no row leads are left aside first: what is told of them does not matter.
    """
    items, _, onward = reached_ahead(alphabet, (left,), None)
    things, _, backward = reached_behind(alphabet, (right,), None)
    rights = [thing[0] for thing in things]
    live = sum([1 << standing for standing in rights])
    answers = [tuple([mask & live for mask in table[item[0]]]) for item in items]
    ahead = refined(onward, answers, MOST_STANDINGS)
    firsts = firsts_of(ahead)
    shorter = [answers[first] for first in firsts]
    columns = [column_of(shorter, standing) for standing in rights]
    behind = refined(backward, columns, MOST_STANDINGS)
    lasts = firsts_of(behind)
    items, _, least_left = reached_ahead(alphabet, (class_moves(onward, ahead, firsts),), None)
    things, _, least_right = reached_behind(alphabet, (class_moves(backward, behind, lasts),), None)
    kept = [rights[lasts[thing[0]]] for thing in things]
    return least_left, least_right, [picked(shorter[item[0]], kept) for item in items]


def mirrored_masks(left, right, table):
    """The machine that tells of the reversed rows what this one tells of the rows."""
    letters = range(len(left[0]))
    turned = []
    for standing in range(len(right)):
        turned.append(tuple([mask_of([has_bit(masks[k], standing) for masks in table]) for k in letters]))
    return right, left, turned
