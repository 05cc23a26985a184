"""Splits: a steady mark told by what is ahead of a place, its letter, and what is behind it."""

from saidhere.errors import TooMany, Unsayable
from saidhere.formulas import TenseFormulas
from saidhere.kinds import is_below, is_listing
from saidhere.leastpair import least
from saidhere.masks import has_bit
from saidhere.pastparts import ahead_parts
from saidhere.plain import is_letter
from saidhere.sheets import MOST_PARTS, joined_parts, wrong_part
from saidhere.shortening import LARGEST, PastMeanings, shortened
from saidhere.splitjudge import is_right_split
from saidhere.tense import FORMS, comings, pasts, tense_sheet
from saidhere.turnings import turning

# Events are peeled off in two orders; the shorter parts are taken.
ORDERS = (1, -1)


class Split:
    """A tense sheet, and pieces (a past part, a letter, a coming part), of which one applies at each marked place."""

    def __init__(self, alphabet, sheet, pieces):
        self.alphabet = alphabet
        self.sheet = sheet
        self.pieces = pieces

    def __iter__(self):
        return iter(self.pieces)

    def __len__(self):
        return len(self.pieces)


def steady_pair(pair):
    """The least pair of a steady mark."""
    turn = turning(pair)
    if turn is not None:
        raise Unsayable(turn.side, turn.standing, turn.turn, turn.count)
    return least(pair)


def split_pieces(small):
    """The standing, the number of the letter and the mask of right standings of each piece, in order."""
    letters = range(len(small.alphabet))
    return [(p, k, masks[k]) for p, masks in enumerate(small.masks) for k in letters if masks[k]]


def chosen(formulas, led, mask):
    """The part that holds where one of the parts of a mask does, just one of all being the one that holds."""
    inside = [part for at, part in enumerate(led) if has_bit(mask, at)]
    outside = [part for at, part in enumerate(led) if not has_bit(mask, at)]
    if len(inside) <= len(outside):
        return formulas.any_of(inside)
    return formulas.negated(formulas.any_of(outside))


def side_parts(alphabet, reader, near, far, masks):
    """Parts, and for each mask the number of the one that holds where the reader comes to a standing of the mask."""
    found = None
    for order in ORDERS:
        formulas = TenseFormulas(near, far)
        try:
            led = ahead_parts(formulas, alphabet, reader, order)
            wanted = [chosen(formulas, led, mask) for mask in masks]
        except TooMany:
            continue
        told = shortened(formulas.parts, wanted, PastMeanings(alphabet, LARGEST))
        if found is None or len(told[0]) < len(found[0]):
            found = told
    if found is None:
        raise TooMany("part")
    return found


def split_of(pair):
    """The split of a steady mark."""
    small = steady_pair(pair)
    told = split_pieces(small)
    if not told:
        return Split(small.alphabet, (("no",),), ())
    ahead = [1 << p for p, k, mask in told]
    behind = [mask for p, k, mask in told]
    left = side_parts(small.alphabet, small.left, "prev", "since", ahead)
    right = side_parts(small.alphabet, small.right, "next", "until", behind)
    sheet, numbers = joined_parts([left[0], right[0]])
    if len(sheet) > MOST_PARTS:
        raise TooMany("part")
    places = list(zip(told, left[1], right[1]))
    pieces = [(numbers[0][i], small.alphabet[piece[1]], numbers[1][j]) for piece, i, j in places]
    return Split(small.alphabet, sheet, tuple(pieces))


def is_piece(alphabet, past, coming, thing):
    """Whether the thing is a past part, a letter, and a coming part, as told of each part."""
    if not is_listing(thing) or len(thing) != 3:
        return False
    if not is_below(thing[0], len(past)) or not is_below(thing[2], len(coming)):
        return False
    return past[thing[0]] and is_letter(alphabet, thing[1]) and coming[thing[2]]


def judge_split(pair, sheet, pieces):
    """Whether a sheet and pieces are a right split for the mark of a pair."""
    if wrong_part(pair.alphabet, FORMS, sheet) is not None or not is_listing(pieces):
        return False
    kept = tense_sheet(pair.alphabet, sheet)
    past = pasts(pair.alphabet, kept)
    coming = comings(pair.alphabet, kept)
    if not all([is_piece(pair.alphabet, past, coming, piece) for piece in pieces]):
        return False
    return is_right_split(pair, kept, [tuple(piece) for piece in pieces])
