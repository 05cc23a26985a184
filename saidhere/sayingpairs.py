"""The pairs of sayings."""

from saidhere.freepairs import pair_of_cuts, pair_of_named
from saidhere.leastpair import least
from saidhere.pairs import Pair
from saidhere.sayings import saying
from saidhere.tensein import derive_tense


def pair_of(alphabet, thing):
    """The least pair of the mark of a saying."""
    kept = saying(alphabet, thing)
    if kept[0] == "tense":
        return derive_tense(alphabet, kept[1])[-1]
    if kept[0] == "named":
        return pair_of_named(alphabet, kept[1])
    if kept[0] == "cuts":
        return pair_of_cuts(alphabet, kept[1], kept[2])
    return least(Pair(alphabet, kept[1], kept[2], kept[3]))


def pairs_of_book(book):
    """The pair of each entry, in order."""
    return tuple([pair_of(book.alphabet, thing) for _, thing in book.entries])
