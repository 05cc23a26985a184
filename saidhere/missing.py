"""Whether a layer leads some row to each row over its target."""

from saidhere.kinds import is_below, is_listing
from saidhere.masks import bits_of
from saidhere.readers import check_most
from saidhere.seams import Seams

MOST_SETS = 300


class Onto:
    """A table of sets of seams if no row is missed, otherwise the least missed row."""

    def __init__(self, holds, sets, row):
        self.holds = holds
        self.sets = sets
        self.row = row

    def __bool__(self):
        return bool(self.holds)


def is_good(stand):
    """Whether a stand has a seam at which a row may end."""
    return any([mask & 1 for mask in stand])


def stands_met(seams):
    """All stands to which rows over the target lead from the first one, in the order of their least rows."""
    stands = [seams.first()]
    rows = [""]
    found = {stands[0]: True}
    at = 0
    while at < len(stands):
        for number, letter in enumerate(seams.target):
            after = seams.stand_after(stands[at], number)
            if after not in found:
                found[after] = True
                stands.append(after)
                rows.append(rows[at] + letter)
                check_most(len(stands), MOST_SETS, "set")
        at += 1
    return stands, rows


def seams_of(stand):
    """The seams of a stand, as an ascending tuple."""
    return tuple([(standing, other) for standing, mask in enumerate(stand) for other in bits_of(mask)])


def onto(layer):
    """Whether the layer misses no row: an Onto."""
    stands, rows = stands_met(Seams(layer))
    missed = [row for stand, row in zip(stands, rows) if not is_good(stand)]
    if missed:
        return Onto(False, None, missed[0])
    return Onto(True, tuple([seams_of(stand) for stand in stands]), None)


def stand_of(layer, thing):
    """A set of seams as a stand; None if it is none."""
    if not is_listing(thing):
        return None
    found = [0 for _ in layer.left]
    for seam in thing:
        if not is_listing(seam) or len(seam) != 2:
            return None
        if not is_below(seam[0], len(layer.left)) or not is_below(seam[1], len(layer.right)):
            return None
        found[seam[0]] = found[seam[0]] | (1 << seam[1])
    return tuple(found)


def judge_onto(layer, sets):
    """Whether a table of sets of seams shows that the layer misses no row."""
    if not is_listing(sets):
        return False
    stands = [stand_of(layer, thing) for thing in sets]
    if None in stands:
        return False
    found = {stand: True for stand in stands}
    seams = Seams(layer)
    if seams.first() not in found or not all([is_good(stand) for stand in found]):
        return False
    numbers = range(len(layer.target))
    return all([seams.stand_after(stand, number) in found for stand in found for number in numbers])
