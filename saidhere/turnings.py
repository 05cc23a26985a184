"""Whether marks are steady, and how those that are not turn."""

from saidhere.errors import BadNumber, BadSide
from saidhere.kinds import is_below, is_listing
from saidhere.leastpair import least, parted_ahead, parted_behind
from saidhere.pairs import marks_in
from saidhere.readers import item_after, reached_ahead, reached_behind, walked_ahead, walked_behind

MOST_MAPS = 300
MOST_TIMES = 40


class Turn:
    """How the mark of a pair turns on a side of its least pair."""

    def __init__(self, side, turn, standing, count, outer, row, place, signs):
        self.side = side
        self.turn = turn
        self.standing = standing
        self.count = count
        self.outer = outer
        self.row = row
        self.place = place
        self.signs = signs

    def shown(self, times):
        """The placed row with the turn done so many times."""
        if not is_below(times, MOST_TIMES + 1):
            raise BadNumber(times)
        if self.side == "left":
            ahead = self.outer + self.turn * times
            return ahead + self.row, len(ahead) + self.place
        return self.row + self.turn * times + self.outer, self.place


def check_side(thing):
    """Raise BadSide unless the thing is a side."""
    if not isinstance(thing, str) or thing not in ("left", "right"):
        raise BadSide(thing)


def side_reader(pair, side):
    """The reader of a side."""
    return pair.left if side == "left" else pair.right


def maps_and_rows(pair, side):
    """The maps of a side, in the order of their least rows, and these rows."""
    reader = side_reader(pair, side)
    still = tuple(list(range(len(reader))))
    copies = [reader for _ in reader]
    if side == "left":
        items, rows, _ = walked_ahead(pair.alphabet, copies, still, MOST_MAPS, "map")
    else:
        items, rows, _ = walked_behind(pair.alphabet, copies, still, MOST_MAPS, "map")
    return items, rows


def maps(pair, side):
    """The maps of all rows, each once, in the order of their least rows."""
    check_side(side)
    items, _ = maps_and_rows(pair, side)
    return tuple(items)


def cycle_of(move, standing):
    """The standings through which a map leads a standing back to itself; none if it never does."""
    cycle = [standing]
    while len(cycle) <= len(move):
        follower = move[cycle[-1]]
        if follower == standing:
            return cycle
        cycle.append(follower)
    return []


def turned_by(move):
    """The least standing that a map leads back, but not at once; None if there is none."""
    for standing in range(len(move)):
        if len(cycle_of(move, standing)) > 1:
            return standing
    return None


def kept_maps(many, thing):
    """The different items of a table of maps of so many standings; None if it is none."""
    if not is_listing(thing):
        return None
    found = {}
    for item in thing:
        if not is_listing(item) or len(item) != many:
            return None
        if not all([is_below(standing, many) for standing in item]):
            return None
        found[tuple(item)] = True
    return found


def judge_steady(pair, side, table):
    """Whether a table shows that a side of a pair is steady."""
    check_side(side)
    reader = side_reader(pair, side)
    found = kept_maps(len(reader), table)
    if found is None or tuple(list(range(len(reader)))) not in found:
        return False
    copies = [reader for _ in reader]
    for item in found:
        if turned_by(item) is not None:
            return False
        if not all([item_after(copies, item, k) in found for k in range(len(pair.alphabet))]):
            return False
    return True


def first_turn(small):
    """The side, the map and the row that turn first in a least pair; None if it is steady.

    The right side is not gone through if the left one turns.
    """
    for side in ("left", "right"):
        items, rows = maps_and_rows(small, side)
        for move, row in zip(items, rows):
            if turned_by(move) is not None:
                return side, move, row
    return None


def is_steady(pair):
    """Whether the mark of the pair is steady."""
    return first_turn(least(pair)) is None


def least_row_to(small, side, standing):
    """The least row that leads to a standing of a least pair."""
    if side == "left":
        return reached_ahead(small.alphabet, (small.left,), None)[1][standing]
    return reached_behind(small.alphabet, (small.right,), None)[1][standing]


def parting(small, side, cycle):
    """The least placed row that parts the first standing of a cycle from another one of it."""
    table = parted_ahead(small) if side == "left" else parted_behind(small)
    found = [
        (row, place) for p, o, row, place in table if cycle[0] in (p, o) and p in cycle and o in cycle
    ]
    return min(found, key=lambda placed: (len(placed[0]), placed))


def turning(pair):
    """How the mark of the pair turns: a Turn; None if it is steady."""
    small = least(pair)
    found = first_turn(small)
    if found is None:
        return None
    side, move, turn = found
    standing = turned_by(move)
    cycle = cycle_of(move, standing)
    outer = least_row_to(small, side, standing)
    row, place = parting(small, side, cycle)
    bare = Turn(side, turn, standing, len(cycle), outer, row, place, ())
    shown = [bare.shown(times) for times in range(len(cycle))]
    signs = tuple([marks_in(small, whole)[at] for whole, at in shown])
    return Turn(side, turn, standing, len(cycle), outer, row, place, signs)
