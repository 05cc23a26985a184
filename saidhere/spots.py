"""Spot readers: of each place of a row that is read letter by letter they tell as soon as it is sure whether it
is marked.

What a place that is open waits for is told by a mask: the standings of the right reader with which it would
be marked, if the rest of the row led to them. All standings of a least pair are led to by some rest.
"""

from saidhere.errors import BadLetter, Ended, TooLong
from saidhere.leastpair import least
from saidhere.masks import has_bit, mask_of
from saidhere.plain import MOST_LETTERS, is_letter


class Spot:
    """A row read so far, and what is known of its places."""

    def __init__(self, pair):
        self.small = least(pair)
        self.row = ""
        self.standing = 0
        self.over = False
        self.open_masks = {}
        self.told = {}

    @property
    def letters(self):
        """The row read so far."""
        return self.row

    @property
    def unsure(self):
        """The open places, ascending."""
        return tuple([place for place in range(len(self.row)) if place not in self.told])

    @property
    def known(self):
        """For each place whether it is marked; None if it is open."""
        return tuple([self.told.get(place) for place in range(len(self.row))])

    @property
    def ended(self):
        """Whether the end has been read."""
        return self.over

    def read(self, letter):
        """Read a letter: the places that become sure, with whether they are marked."""
        if self.over:
            raise Ended()
        if not is_letter(self.small.alphabet, letter):
            raise BadLetter(letter)
        if len(self.row) >= MOST_LETTERS:
            raise TooLong(len(self.row) + 1)
        number = self.small.alphabet.find(letter)
        masks = {place: self.waited(mask, number) for place, mask in self.open_masks.items()}
        masks[len(self.row)] = self.small.masks[self.standing][number]
        self.row = self.row + letter
        self.standing = self.small.left[self.standing][number]
        whole = (1 << len(self.small.right)) - 1
        self.open_masks = {place: mask for place, mask in masks.items() if mask not in (0, whole)}
        return self.noted([(place, mask == whole) for place, mask in masks.items() if mask in (0, whole)])

    def end(self):
        """Read the end of the row: all open places, with whether they are marked."""
        if self.over:
            raise Ended()
        masks = self.open_masks
        self.over = True
        self.open_masks = {}
        return self.noted([(place, has_bit(mask, 0)) for place, mask in masks.items()])

    def waited(self, mask, number):
        """What a place waits for behind a letter."""
        return mask_of([has_bit(mask, move[number]) for move in self.small.right])

    def noted(self, fresh):
        """What is told of places that have become sure, when it has been noted."""
        for place, marked in fresh:
            self.told[place] = marked
        return tuple(fresh)

    def copy(self):
        """A spot reader that has read the same and goes on by itself."""
        other = Spot(self.small)
        other.row = self.row
        other.standing = self.standing
        other.over = self.over
        other.open_masks = dict(self.open_masks)
        other.told = dict(self.told)
        return other
