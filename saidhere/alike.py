"""Whether two pairs have alike marks, with what shows it."""

from saidhere.kinds import is_below, is_listing
from saidhere.masks import lowest, spread
from saidhere.pairs import check_alphabets, marks_in
from saidhere.readers import item_after, reached_ahead, reached_behind


class Likeness:
    """Two tables if two pairs have alike marks, otherwise the least placed row that parts them."""

    def __init__(self, holds, ahead, behind, row, place):
        self.holds = holds
        self.ahead = ahead
        self.behind = behind
        self.row = row
        self.place = place

    def __bool__(self):
        return bool(self.holds)


def unlike_masks(one, other, ahead, behind):
    """For each item of ahead, a mask for each letter: the items of behind with which the pairs differ."""
    first = spread(one.masks, [q for q, s in behind])
    second = spread(other.masks, [s for q, s in behind])
    return [tuple([x ^ y for x, y in zip(first[p], second[o])]) for p, o in ahead]


def least_unlike_row(alphabet, rows, table, ends):
    """The least row one place of which is marked by one pair alone, None if there is none.

    For a row ahead and a letter the lowest bit tells the least row behind, as these are ascending.
    """
    found = []
    for row, masks in zip(rows, table):
        for letter, mask in zip(alphabet, masks):
            if mask:
                found.append(row + letter + ends[lowest(mask)])
    return min(found, key=lambda whole: (len(whole), whole), default=None)


def alike(one, other):
    """Whether the marks of two pairs are alike: a Likeness."""
    check_alphabets(one, other)
    ahead, rows, _ = reached_ahead(one.alphabet, (one.left, other.left), None)
    behind, ends, _ = reached_behind(one.alphabet, (one.right, other.right), None)
    row = least_unlike_row(one.alphabet, rows, unlike_masks(one, other, ahead, behind), ends)
    if row is None:
        return Likeness(True, tuple(ahead), tuple(behind), None, None)
    places = [x == y for x, y in zip(marks_in(one, row), marks_in(other, row))]
    return Likeness(False, None, None, row, places.index(False))


def kept_table(first, second, thing):
    """The different items of a table of standings of two readers, None if it is none."""
    if not is_listing(thing):
        return None
    found = {}
    for item in thing:
        if not is_listing(item) or len(item) != 2:
            return None
        if not is_below(item[0], len(first)) or not is_below(item[1], len(second)):
            return None
        found[tuple(item)] = True
    return list(found)


def is_closed(first, second, items):
    """Whether the items have the first one, and with each one those that follow it."""
    if (0, 0) not in items:
        return False
    letters = range(len(first[0]))
    known = {item: True for item in items}
    return all([item_after((first, second), item, k) in known for item in items for k in letters])


def judge_alike(one, other, ahead, behind):
    """Whether two tables show that the marks of two pairs are alike."""
    check_alphabets(one, other)
    items = kept_table(one.left, other.left, ahead)
    things = kept_table(one.right, other.right, behind)
    if items is None or things is None:
        return False
    if not is_closed(one.left, other.left, items) or not is_closed(one.right, other.right, things):
        return False
    return not any([mask for masks in unlike_masks(one, other, items, things) for mask in masks])
