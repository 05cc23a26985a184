"""Gaps: spots between two letters of a row, as the readers of a wish and of a claim see them, and the strides
that letters make between them.

A gap (p, o, q, s) has a left item (p, o), the standings of the left readers of the wish and of the claim, and
a right item (q, s) alike. Several gaps are told by a dict that has, for a left item, the mask of the numbers
of their right items, the number of (q, s) being q times the standings of the claim's right reader, plus s.
"""

from saidhere.kinds import is_below, is_listing
from saidhere.machines import mirrored_masks
from saidhere.masks import bits_of, has_bit, lowest, mask_with, number_of_bits, spread, united_bits
from saidhere.readers import check_most, feeding, item_after, walked_ahead

MOST_GAPS = 2000


class Field:
    """The gaps of a wish and of a claim, both told as machines, and how letters lead from one to another."""

    def __init__(self, alphabet, wish, claim):
        self.alphabet = alphabet
        self.lefts = (wish[0], claim[0])
        self.rights = (wish[1], claim[1])
        self.right_items = [(q, s) for q in range(len(wish[1])) for s in range(len(claim[1]))]
        self.fed = [(feeding(wish[1], letter), feeding(claim[1], letter)) for letter in range(len(alphabet))]
        self.wished = spread(wish[2], [q for q, s in self.right_items])
        self.claimed = spread(claim[2], [s for q, s in self.right_items])

    def number_at(self, item):
        """The number of a right item."""
        return item[0] * len(self.rights[1]) + item[1]

    def stridden(self, item, mask, letter):
        """The right items behind strides of a letter from gaps with this left item and these right items.

        The right items with one standing of the wish lie side by side in the mask.
        """
        many = len(self.rights[1])
        ahead, behind = self.fed[letter]
        found = 0
        rest = mask
        while rest:
            standing = lowest(rest) // many
            row = (rest >> (standing * many)) & ((1 << many) - 1)
            rest = rest ^ (row << (standing * many))
            led = united_bits(row, behind) if ahead[standing] else 0
            for other in bits_of(ahead[standing]):
                found = found | (led << (other * many))
        return found & self.wished[item[0]][letter]

    def first(self):
        """The right items of the first gaps."""
        begin = (0, 0)
        met, _, _ = walked_ahead(self.alphabet, self.rights, begin, None, "gap")
        return mask_with([self.number_at(item) for item in met])

    def gaps_met(self, most):
        """All gaps to which ways lead from first gaps; None is no bound on how many they may be."""
        found = {(0, 0): self.first()}
        level = {(0, 0): found[(0, 0)]}
        many = number_of_bits(found[(0, 0)])
        while level:
            newer = {}
            for item, mask in level.items():
                for letter in range(len(self.alphabet)):
                    after = item_after(self.lefts, item, letter)
                    fresh = self.stridden(item, mask, letter) & ~found.get(after, 0)
                    if fresh:
                        found[after] = found.get(after, 0) | fresh
                        newer[after] = newer.get(after, 0) | fresh
                        many += number_of_bits(fresh)
                        check_most(many, most, "gap")
            level = {item: mask for item, mask in newer.items()}
        return found

    def is_closed(self, found):
        """Whether some gaps have all first gaps, and all those to which a stride leads from one of them."""
        if self.first() & ~found.get((0, 0), 0):
            return False
        for item, mask in found.items():
            for letter in range(len(self.alphabet)):
                after = item_after(self.lefts, item, letter)
                if self.stridden(item, mask, letter) & ~found.get(after, 0):
                    return False
        return True


def field_of(wish, claim):
    """The field of two pairs."""
    machines = [(pair.left, pair.right, pair.masks) for pair in (wish, claim)]
    return Field(wish.alphabet, machines[0], machines[1])


def turned_field(wish, claim):
    """The field of the mirrored pairs: its ways are those to last gaps, from their ends on."""
    machines = [mirrored_masks(pair.left, pair.right, pair.masks) for pair in (wish, claim)]
    return Field(wish.alphabet, machines[0], machines[1])


def turned(found, field):
    """The gaps of a turned field told as those of a field, or the other way round."""
    told = {}
    for item, mask in found.items():
        number = field.number_at(item)
        for other in bits_of(mask):
            there = (other // len(field.lefts[1]), other % len(field.lefts[1]))
            told[there] = told.get(there, 0) | (1 << number)
    return told


def listed(field, found):
    """Some gaps as an ascending list of tuples."""
    told = []
    for item, mask in found.items():
        told.extend([item + field.right_items[number] for number in bits_of(mask)])
    return sorted(told)


def counted(forward, backward):
    """The gaps that count: those that are in both."""
    told = {}
    for item, mask in forward.items():
        both = mask & backward.get(item, 0)
        if both:
            told[item] = both
    return told


def ways_both(field, wish, claim, most):
    """The gaps to which ways lead from first gaps, and those from which ways lead to last gaps."""
    forward = field.gaps_met(most)
    return forward, turned(turned_field(wish, claim).gaps_met(most), field)


def are_within(found, others):
    """Whether all gaps of some are among others."""
    return not any([mask & ~others.get(item, 0) for item, mask in found.items()])


def strides(field, counting):
    """The gaps that count, as an ascending list, and for each the strides to others: (letter, number, marked)."""
    gaps = listed(field, counting)
    numbers = {gap: number for number, gap in enumerate(gaps)}
    told = []
    for gap in gaps:
        item = gap[:2]
        mask = 1 << field.number_at(gap[2:])
        steps = []
        for letter in range(len(field.alphabet)):
            after = item_after(field.lefts, item, letter)
            there = field.stridden(item, mask, letter) & counting.get(after, 0)
            marks = field.claimed[item[1]][letter]
            for number in bits_of(there):
                steps.append((letter, numbers[after + field.right_items[number]], has_bit(marks, number)))
        told.append(steps)
    return gaps, told


def is_first(gap):
    """Whether a gap that counts is a first one."""
    return gap[:2] == (0, 0)


def is_last(gap):
    """Whether a gap that counts is a last one."""
    return gap[2:] == (0, 0)


def is_gap(field, thing):
    """Whether the thing is a gap."""
    if not is_listing(thing) or len(thing) != 4:
        return False
    readers = field.lefts + field.rights
    return all([is_below(standing, len(reader)) for standing, reader in zip(thing, readers)])


def kept_gaps(field, thing):
    """A table of gaps as a dict of masks; None if it is none."""
    if not is_listing(thing):
        return None
    found = {}
    for gap in thing:
        if not is_gap(field, gap):
            return None
        item = tuple(gap[:2])
        found[item] = found.get(item, 0) | (1 << field.number_at(gap[2:]))
    return found
