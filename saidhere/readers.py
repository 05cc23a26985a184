"""Readers as moves: their form, and the standings to which rows lead one or several of them together.

Several readers of one side that read the same row stand at an item: a tuple with a standing of each.
"""

from saidhere.errors import BadReader, TooMany
from saidhere.kinds import is_below, is_listing

MOST_STANDINGS = 40


def is_move(thing, letters, standings):
    """Whether the thing has one of so many standings for each of so many letters."""
    if not is_listing(thing) or len(thing) != letters:
        return False
    return all([is_below(standing, standings) for standing in thing])


def kept_reader(alphabet, side, thing):
    """The reader as tuples."""
    if not is_listing(thing) or not 1 <= len(thing) <= MOST_STANDINGS:
        raise BadReader(side, -1)
    kept = []
    for number, move in enumerate(thing):
        if not is_move(move, len(alphabet), len(thing)):
            raise BadReader(side, number)
        kept.append(tuple(move))
    return tuple(kept)


def standings_ahead(alphabet, left, row):
    """For each place of the row, the standing to which the row ahead of it leads a left reader."""
    told = []
    standing = 0
    for letter in row:
        told.append(standing)
        standing = left[standing][alphabet.find(letter)]
    return told


def standings_behind(alphabet, right, row):
    """For each place of the row, the standing to which the row behind it leads a right reader."""
    return standings_ahead(alphabet, right, row[::-1])[::-1]


def feeding(reader, letter):
    """For each standing, the mask of those from which the letter with this number leads to it."""
    found = [0 for _ in reader]
    for standing, move in enumerate(reader):
        found[move[letter]] = found[move[letter]] | (1 << standing)
    return found


def led_standings(reader, numbers):
    """The standings through which the letters with these numbers lead a reader, from the standing 0 on."""
    told = [0]
    for number in numbers:
        told.append(reader[told[-1]][number])
    return told


def item_after(readers, item, letter):
    """The item to which the letter with this number leads from an item."""
    return tuple([reader[standing][letter] for reader, standing in zip(readers, item)])


def check_most(many, most, word="standing"):
    """Raise TooMany if there are more things than most; None is no bound."""
    if most is not None and many > most:
        raise TooMany(word)


def walked_ahead(alphabet, readers, begin, most, word):
    """The items to which rows lead left readers from an item, in the order of their least rows.

    Told are the items, their least rows, and the moves by the numbers of the items.
    """
    items = [begin]
    found = {begin: 0}
    rows = [""]
    moves = []
    at = 0
    while at < len(items):
        move = []
        for number, letter in enumerate(alphabet):
            follower = item_after(readers, items[at], number)
            if follower not in found:
                found[follower] = len(items)
                items.append(follower)
                rows.append(rows[at] + letter)
                check_most(len(items), most, word)
            move.append(found[follower])
        moves.append(tuple(move))
        at += 1
    return items, rows, moves


def walked_behind(alphabet, readers, begin, most, word):
    """The same as walked_ahead for right readers; the least rows are meant as they are written.

    A right reader comes to the first letter of a row last, so the rows of one length are met in
    ascending order if the letter put in front is gone through outside of the rows it is put to.
    """
    items = [begin]
    found = {begin: 0}
    rows = [""]
    level = [0]
    while level:
        newer = []
        for number, letter in enumerate(alphabet):
            for at in level:
                follower = item_after(readers, items[at], number)
                if follower not in found:
                    found[follower] = len(items)
                    newer.append(len(items))
                    items.append(follower)
                    rows.append(letter + rows[at])
                    check_most(len(items), most, word)
        level = list(newer)
    letters = range(len(alphabet))
    moves = [tuple([found[item_after(readers, item, k)] for k in letters]) for item in items]
    return items, rows, moves


def reached_ahead(alphabet, readers, most):
    """What walked_ahead tells of the item at which left readers begin."""
    return walked_ahead(alphabet, readers, tuple([0 for _ in readers]), most, "standing")


def reached_behind(alphabet, readers, most):
    """What walked_behind tells of the item at which right readers begin."""
    return walked_behind(alphabet, readers, tuple([0 for _ in readers]), most, "standing")
