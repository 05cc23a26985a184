"""The rows that a layer leads to a row, by seams: pairs (p, q) of a left and a right standing between letters.

Several seams, a stand, are told by a tuple that has for each left standing the mask of the right ones.
"""

from saidhere.layers import letter_masks
from saidhere.masks import bits_of, mask_with, united_bits
from saidhere.readers import feeding, reached_behind


class Seams:
    """How the letters of a target lead from seams of a layer to others, on and back."""

    def __init__(self, layer):
        self.alphabet = layer.alphabet
        self.target = layer.target
        self.left = layer.left
        self.right = layer.right
        self.size = len(layer.target)
        self.told = letter_masks(layer.target, layer.told)
        self.fed = [feeding(layer.right, letter) for letter in range(len(layer.alphabet))]

    def first(self):
        """The stand at the beginning: the right standings to which rows lead."""
        things, _, _ = reached_behind(self.alphabet, (self.right,), None)
        return (mask_with([thing[0] for thing in things]),) + tuple([0 for _ in self.left[1:]])

    def last(self):
        """The stand at the end."""
        return tuple([1 for _ in self.left])

    def steps_behind(self, standing, mask, number):
        """For each letter, the left and the right standings behind it, from these, if it is led to a target letter.

        Number is that of the target letter.
        """
        found = []
        for letter, after in enumerate(self.left[standing]):
            behind = united_bits(mask, self.fed[letter])
            found.append((after, behind & self.told[standing][letter * self.size + number]))
        return found

    def stand_after(self, stand, number):
        """The stand behind a target letter."""
        found = [0 for _ in stand]
        for standing, mask in enumerate(stand):
            if mask:
                for after, behind in self.steps_behind(standing, mask, number):
                    found[after] = found[after] | behind
        return tuple(found)

    def stand_before(self, stand, number):
        """The stand ahead of a target letter."""
        found = [0 for _ in stand]
        for standing, move in enumerate(self.left):
            for letter, after in enumerate(move):
                behind = stand[after] & self.told[standing][letter * self.size + number]
                ahead = mask_with([self.right[q][letter] for q in bits_of(behind)])
                found[standing] = found[standing] | ahead
        return tuple(found)

    def letter_numbers(self, row):
        """The numbers of the letters of a row over the target."""
        return [self.target.find(letter) for letter in row]

    def all_alive(self, row):
        """For each spot of a row over the target, the stand of all seams from which the rest can be led to."""
        found = [self.last()]
        for number in reversed(list(self.letter_numbers(row))):
            found.append(self.stand_before(found[-1], number))
        return found[::-1]


def live_steps(seams, alive, row, told, standing, mask):
    """The letters that can come behind those told: (letter, left standing, mask)."""
    at = len(told)
    steps = seams.steps_behind(standing, mask, seams.target.find(row[at]))
    whole = [(after, behind & alive[at + 1][after]) for after, behind in steps]
    return [(letter, after, behind) for letter, (after, behind) in enumerate(whole) if behind]


def each_led(layer, row):
    """All rows that the layer leads to a row, however long, one by one, ascending."""
    seams = Seams(layer)
    alive = seams.all_alive(row)
    waiting = [("", 0, alive[0][0])] if alive[0][0] else []
    while waiting:
        told, standing, mask = waiting.pop()
        if len(told) == len(row):
            yield told
        else:
            steps = live_steps(seams, alive, row, told, standing, mask)
            for letter, after, behind in reversed(list(steps)):
                waiting.append((told + seams.alphabet[letter], after, behind))
