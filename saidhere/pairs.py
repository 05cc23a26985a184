"""Pairs: a mark told by a left reader, a right reader and the triples at which a place is marked."""

from saidhere.errors import BadLetters, BadMarked, Unlike
from saidhere.kinds import is_below, is_listing
from saidhere.machines import least_machine
from saidhere.masks import has_bit, spread
from saidhere.plain import check_alphabet, check_place, check_row, is_letter
from saidhere.readers import kept_reader, reached_ahead, reached_behind, standings_ahead, standings_behind


def is_triple(alphabet, left, right, thing):
    """Whether the thing is a standing of the left reader, a letter, and a standing of the right reader."""
    if not is_listing(thing) or len(thing) != 3:
        return False
    known = is_below(thing[0], len(left)) and is_letter(alphabet, thing[1])
    return known and is_below(thing[2], len(right))


def kept_marked(alphabet, left, right, thing):
    """The triples as tuples."""
    if not is_listing(thing):
        raise BadMarked(-1)
    kept = []
    for number, triple in enumerate(thing):
        if not is_triple(alphabet, left, right, triple):
            raise BadMarked(number)
        if kept and not kept[-1] < tuple(triple):
            raise BadMarked(number)
        kept.append(tuple(triple))
    return tuple(kept)


def masks_of_triples(alphabet, many, marked):
    """For each of so many left standings, the mask of the marked right standings for each letter."""
    found = {}
    for standing, letter, other in marked:
        found[(standing, letter)] = found.get((standing, letter), 0) | (1 << other)
    return tuple([tuple([found.get((standing, letter), 0) for letter in alphabet]) for standing in range(many)])


def triples_of_masks(alphabet, many, table):
    """The triples that a table of masks over so many right standings tells, ascending."""
    triples = []
    for standing, masks in enumerate(table):
        for letter, mask in zip(alphabet, masks):
            for other in range(many):
                if has_bit(mask, other):
                    triples.append((standing, letter, other))
    return tuple(triples)


def check_alphabets(one, other):
    """Raise Unlike unless both are over one alphabet."""
    if one.alphabet != other.alphabet:
        raise Unlike("alphabet")


def marks_in(pair, row):
    """For each place of the row, however long, whether the pair marks it."""
    ahead = standings_ahead(pair.alphabet, pair.left, row)
    behind = standings_behind(pair.alphabet, pair.right, row)
    letters = [pair.alphabet.find(letter) for letter in row]
    return tuple([has_bit(pair.masks[p][k], q) for p, k, q in zip(ahead, letters, behind)])


def crossed(one, other):
    """The readers of two pairs, each side together, and the masks of both by the left standings of both."""
    items, _, left = reached_ahead(one.alphabet, (one.left, other.left), None)
    things, _, right = reached_behind(one.alphabet, (one.right, other.right), None)
    first = spread(one.masks, [q for q, s in things])
    second = spread(other.masks, [s for q, s in things])
    return left, right, [(first[p], second[o]) for p, o in items]


class Pair:
    """A mark told by a left reader, a right reader, and marked triples; `masks` has the triples as masks."""

    def __init__(self, alphabet, left, right, marked):
        check_alphabet(alphabet)
        self.alphabet = alphabet
        self.left = kept_reader(alphabet, "left", left)
        self.right = kept_reader(alphabet, "right", right)
        self.marked = kept_marked(alphabet, self.left, self.right, marked)
        self.masks = masks_of_triples(alphabet, len(self.left), self.marked)

    def __call__(self, row):
        check_row(self.alphabet, row)
        return marks_in(self, row)

    def __contains__(self, placed):
        row, place = placed
        check_row(self.alphabet, row)
        check_place(row, place)
        return marks_in(self, row)[place]

    def __and__(self, other):
        check_alphabets(self, other)
        left, right, table = crossed(self, other)
        both = [tuple([x & y for x, y in zip(first, second)]) for first, second in table]
        return least_pair(self.alphabet, left, right, both)

    def __or__(self, other):
        check_alphabets(self, other)
        left, right, table = crossed(self, other)
        either = [tuple([x | y for x, y in zip(first, second)]) for first, second in table]
        return least_pair(self.alphabet, left, right, either)

    def __invert__(self):
        whole = (1 << len(self.right)) - 1
        table = [tuple([mask ^ whole for mask in masks]) for masks in self.masks]
        return least_pair(self.alphabet, self.left, self.right, table)

    def __eq__(self, other):
        return (
            isinstance(other, Pair)
            and self.alphabet == other.alphabet
            and self.left == other.left
            and self.right == other.right
            and self.marked == other.marked
        )

    @classmethod
    def of_letters(cls, alphabet, letters):
        """The pair that marks the places that have one of the letters."""
        check_alphabet(alphabet)
        if not is_choice(alphabet, letters):
            raise BadLetters(letters)
        still = (tuple([0 for _ in alphabet]),)
        return cls(alphabet, still, still, [(0, letter, 0) for letter in sorted(letters)])


def is_choice(alphabet, thing):
    """Whether the thing is a string of different letters of the alphabet, in any order."""
    if not isinstance(thing, str) or len(thing) > len(alphabet):
        return False
    return all([letter in alphabet for letter in thing]) and len(set(thing)) == len(thing)


def least_pair(alphabet, left, right, table):
    """The least pair of the mark of two readers, of any size, and a table of masks for each letter."""
    ahead, behind, masks = least_machine(alphabet, left, right, table)
    return Pair(alphabet, ahead, behind, triples_of_masks(alphabet, len(behind), masks))
