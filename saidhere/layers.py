"""Layers: each row over an alphabet is led to a row of the same length over a target."""

from saidhere.errors import BadLetter, BadPairs, BadTold, Unlawful, Unlike
from saidhere.freerows import least_wrong_row
from saidhere.joining import joined_machine
from saidhere.kinds import is_listing
from saidhere.leastpair import least
from saidhere.machines import least_machine
from saidhere.masks import has_bit, mask_of
from saidhere.pairs import Pair, least_pair, marks_in
from saidhere.plain import check_alphabet, check_row, is_letter
from saidhere.readers import MOST_STANDINGS, kept_reader, reached_ahead, reached_behind
from saidhere.readers import standings_ahead, standings_behind


def is_told(alphabet, target, many, thing):
    """Whether the thing has, for each letter of the alphabet, a letter of the target for each of so many."""
    if not is_listing(thing) or len(thing) != len(alphabet):
        return False
    for told in thing:
        if not is_listing(told) or len(told) != many:
            return False
        if not all([is_letter(target, letter) for letter in told]):
            return False
    return True


def kept_told(alphabet, target, left, right, thing):
    """What a layer tells, as tuples."""
    if not is_listing(thing) or len(thing) != len(left):
        raise BadTold(-1)
    kept = []
    for number, items in enumerate(thing):
        if not is_told(alphabet, target, len(right), items):
            raise BadTold(number)
        kept.append(tuple([tuple(told) for told in items]))
    return tuple(kept)


def letter_masks(letters, told):
    """For each left standing, the masks of the right standings for each letter and each of these letters."""
    return [
        tuple([mask_of([x == letter for x in row]) for row in items for letter in letters]) for items in told
    ]


def letter_at(target, masks, standing):
    """The letter of the target whose mask has the standing."""
    found = [letter for letter, mask in zip(target, masks) if has_bit(mask, standing)]
    return found[0]


def told_of_masks(alphabet, target, many, table):
    """What a layer tells, from a table of masks over so many right standings."""
    size = len(target)
    told = []
    for masks in table:
        parts = [masks[k * size:(k + 1) * size] for k in range(len(alphabet))]
        told.append(tuple([tuple([letter_at(target, part, q) for q in range(many)]) for part in parts]))
    return tuple(told)


def layer_of_machine(alphabet, target, left, right, table):
    """The least layer of two readers, of any size, and a table of masks."""
    ahead, behind, masks = least_machine(alphabet, left, right, table)
    return Layer(alphabet, target, ahead, behind, told_of_masks(alphabet, target, len(behind), masks))


def machine_of(layer):
    """The layer with the numbers of the target letters in the place of these."""
    told = [[[layer.target.find(x) for x in row] for row in items] for items in layer.told]
    return layer.left, layer.right, told


def led_row(layer, row):
    """The row to which the layer leads a row, however long."""
    ahead = standings_ahead(layer.alphabet, layer.left, row)
    behind = standings_behind(layer.alphabet, layer.right, row)
    letters = [layer.alphabet.find(letter) for letter in row]
    return "".join([layer.told[p][k][q] for p, k, q in zip(ahead, letters, behind)])


class Layer:
    """What leads each row over an alphabet to a row over a target, place by place."""

    def __init__(self, alphabet, target, left, right, told):
        check_alphabet(alphabet)
        check_alphabet(target)
        self.alphabet = alphabet
        self.target = target
        self.left = kept_reader(alphabet, "left", left)
        self.right = kept_reader(alphabet, "right", right)
        self.told = kept_told(alphabet, target, self.left, self.right, told)

    def __call__(self, row):
        check_row(self.alphabet, row)
        return led_row(self, row)

    def __mul__(self, other):
        if self.target != other.alphabet:
            raise Unlike("alphabet")
        one = machine_of(least_layer(self))
        left, right, table = joined_machine(one, machine_of(least_layer(other)), len(other.target))
        return layer_of_machine(self.alphabet, other.target, left, right, table)

    def __eq__(self, other):
        return (
            isinstance(other, Layer)
            and self.alphabet == other.alphabet
            and self.target == other.target
            and self.left == other.left
            and self.right == other.right
            and self.told == other.told
        )

    def mark_of(self, letter):
        """The pair that marks the places that get this letter of the target."""
        if not is_letter(self.target, letter):
            raise BadLetter(letter)
        return least_pair(self.alphabet, self.left, self.right, letter_masks(letter, self.told))

    @classmethod
    def same(cls, alphabet):
        """The layer that leads each row to itself."""
        check_alphabet(alphabet)
        still = (tuple([0 for _ in alphabet]),)
        return cls(alphabet, alphabet, still, still, [[[letter] for letter in alphabet]])


def least_layer(layer):
    """The layer that does the same with as few standings as can be."""
    table = letter_masks(layer.target, layer.told)
    return layer_of_machine(layer.alphabet, layer.target, layer.left, layer.right, table)


def check_pairs(alphabet, target, pairs):
    """Raise BadPairs unless there is a pair over the alphabet for each letter of the target."""
    if not is_listing(pairs) or len(pairs) != len(target):
        raise BadPairs(-1)
    for number, pair in enumerate(pairs):
        if not isinstance(pair, Pair) or pair.alphabet != alphabet:
            raise BadPairs(number)


def check_each_once(alphabet, pairs):
    """Raise Unlawful unless each place of each row is marked by exactly one of the pairs."""
    row = least_wrong_row(alphabet, pairs)
    if row is not None:
        marks = [marks_in(pair, row) for pair in pairs]
        times = [sum(column) for column in zip(*marks)]
        raise Unlawful(row, [number == 1 for number in times].index(False))


def letter_of(target, pairs, item, number, thing):
    """The target letter whose pair marks the letter with this number between an item and a thing."""
    for letter, pair, p, q in zip(target, pairs, item, thing):
        if has_bit(pair.masks[p][number], q):
            return letter
    return None


def layer_of(alphabet, target, pairs):
    """The layer whose target letters have the marks of these pairs.

    Rows are alike ahead for it exactly if they are for each of its marks, so the standings of their
    least pairs, taken together, are those of the least layer.
    """
    check_alphabet(alphabet)
    check_alphabet(target)
    check_pairs(alphabet, target, pairs)
    smalls = [least(pair) for pair in pairs]
    check_each_once(alphabet, smalls)
    items, _, left = reached_ahead(alphabet, [pair.left for pair in smalls], MOST_STANDINGS)
    things, _, right = reached_behind(alphabet, [pair.right for pair in smalls], MOST_STANDINGS)
    letters = range(len(alphabet))
    told = [
        [[letter_of(target, smalls, item, k, thing) for thing in things] for k in letters] for item in items
    ]
    return Layer(alphabet, target, left, right, told)
