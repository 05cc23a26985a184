"""Sayings are carried to other tongues."""

from saidhere.cutsout import cuts_of
from saidhere.errors import BadKind
from saidhere.namedcuts import named_from_cuts
from saidhere.namedout import named_from_tense
from saidhere.sayingpairs import pair_of
from saidhere.sayings import KINDS, saying
from saidhere.tenseout import tense_of


def out_of_pair(pair, kind):
    """A saying of this kind with the mark of a pair."""
    if kind == "pair":
        return kind, pair.left, pair.right, pair.marked
    if kind == "cuts":
        sheet, cuts = cuts_of(pair)
        return kind, sheet, cuts
    sheet = tense_of(pair)
    return kind, sheet if kind == "tense" else named_from_tense(pair.alphabet, sheet)


def carried(alphabet, thing, kind):
    """A saying of this kind with the mark of a saying."""
    kept = saying(alphabet, thing)
    if not isinstance(kind, str) or kind not in KINDS:
        raise BadKind(kind)
    if kept[0] == kind and kind != "pair":
        return kept
    if kind == "named" and kept[0] == "tense":
        return kind, named_from_tense(alphabet, kept[1])
    if kind == "named" and kept[0] == "cuts":
        return kind, named_from_cuts(alphabet, kept[1], kept[2])
    return out_of_pair(pair_of(alphabet, kept), kind)
