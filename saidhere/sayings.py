"""Sayings: marks that are said in one of the four tongues."""

from saidhere.errors import BadSaying
from saidhere.kinds import is_listing
from saidhere.named import marking_sheet
from saidhere.pairs import kept_marked
from saidhere.plain import check_alphabet
from saidhere.plainsets import kept_cuts, set_sheet
from saidhere.readers import kept_reader
from saidhere.tense import tense_sheet

# How many things stand behind the word.
KINDS = {"tense": 1, "named": 1, "cuts": 2, "pair": 3}


def is_of_kind(thing):
    """Whether the thing has one of the words, and the right number of things behind it."""
    if not is_listing(thing) or len(thing) == 0:
        return False
    word = thing[0]
    return isinstance(word, str) and word in KINDS and len(thing) == KINDS[word] + 1


def kept_pair(alphabet, left, right, marked):
    """The things of a pair, as tuples."""
    ahead = kept_reader(alphabet, "left", left)
    behind = kept_reader(alphabet, "right", right)
    return ahead, behind, kept_marked(alphabet, ahead, behind, marked)


def saying(alphabet, thing):
    """The saying as tuples."""
    check_alphabet(alphabet)
    if not is_of_kind(thing):
        raise BadSaying(thing)
    word = thing[0]
    if word == "tense":
        return word, tense_sheet(alphabet, thing[1])
    if word == "named":
        return word, marking_sheet(alphabet, thing[1])
    if word == "cuts":
        kept = set_sheet(alphabet, thing[1])
        return word, kept, kept_cuts(alphabet, len(kept), thing[2])
    return (word,) + kept_pair(alphabet, thing[1], thing[2], thing[3])
