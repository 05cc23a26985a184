"""Splits are judged: for all rows, by the machines of their parts.

The machines of all past parts of the pieces read rows ahead of a place together with the left reader of the
pair, and then the letter at the place; those of the coming parts read what is behind alike, from its end on.
"""

from saidhere.masks import has_bit, mask_of
from saidhere.readers import reached_ahead
from saidhere.shortening import PastMeanings, put_together


def met_together(alphabet, reader, kept, pieces):
    """What comes together at places: for each letter, pairs of a standing of a reader and a mask of pieces.

    Pieces are pairs of a part and a letter; those of the mask have the letter, and their part holds there.
    """
    _, machines, numbers = put_together(kept, [part for part, letter in pieces], PastMeanings(alphabet, None))
    asked = sorted(set([numbers[part] for part, letter in pieces]))
    places = {number: at for at, number in enumerate(asked)}
    colours = [machines[number][1] for number in asked]
    items, _, moves = reached_ahead(alphabet, [machines[number][0] for number in asked] + [reader], None)
    met = [{} for _ in alphabet]
    for item, move in zip(items, moves):
        for number, letter in enumerate(alphabet):
            holds = [colour[standing] == 1 for colour, standing in zip(colours, items[move[number]])]
            mask = mask_of([other == letter and holds[places[numbers[part]]] for part, other in pieces])
            met[number][(item[-1], mask)] = True
    return met


def is_right_split(pair, kept, pieces):
    """Whether a place is marked by the pair exactly if at least one of the pieces applies there."""
    ahead = met_together(pair.alphabet, pair.left, kept, [(i, letter) for i, letter, j in pieces])
    behind = met_together(pair.alphabet, pair.right, kept, [(j, letter) for i, letter, j in pieces])
    for number in range(len(pair.alphabet)):
        for p, first in ahead[number]:
            for q, second in behind[number]:
                if has_bit(pair.masks[p][number], q) != (first & second != 0):
                    return False
    return True
