"""Joints: marks of what is seen through a glass that lie between two marks."""

from saidhere.glasses import check_glass
from saidhere.leastpair import least
from saidhere.pairs import check_alphabets
from saidhere.through import parted_through, perhaps, sure
from saidhere.turnings import is_steady


class Joint:
    """The strongest and the weakest joint of two marks; or two rows and a place that show that there is none."""

    def __init__(self, holds, strongest, weakest, steady, row, other, place):
        self.holds = holds
        self.strongest = strongest
        self.weakest = weakest
        self.steady = steady
        self.row = row
        self.other = other
        self.place = place

    def __bool__(self):
        return bool(self.holds)


def joint(first, second, glass):
    """What lies between the first mark and the second one, seen through a glass: a Joint."""
    check_alphabets(first, second)
    check_glass(first.alphabet, glass)
    parted = parted_through(least(first), least(second), glass)
    if parted is not None:
        return Joint(False, None, None, None, parted[0], parted[1], parted[2])
    strongest = perhaps(first, glass)
    weakest = sure(second, glass)
    steady = is_steady(strongest) or is_steady(weakest)
    return Joint(True, strongest, weakest, steady, None, None, None)
