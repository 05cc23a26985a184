"""The least row that a layer leads to the same row as another one.

Two rows are read side by side. A spot of them is (f, p, o, q): f tells whether the letters ahead of it have
differed (1) or not (0), p and o are the left standings of the two rows, q is the right standing of the first
one. A mask tells the right standings of the other row.
"""

from saidhere.joining import feeders
from saidhere.masks import bits_of, mask_with, united_bits
from saidhere.seams import Seams


class Twins:
    """How letters lead from spots of two rows to others, if a layer leads both rows to one row."""

    def __init__(self, layer):
        self.alphabet = layer.alphabet
        self.seams = Seams(layer)
        self.left_fed = feeders(layer.left)
        self.numbers = [[[layer.target.find(x) for x in row] for row in items] for items in layer.told]
        self.led_masks = {}

    def led(self, mask, letter):
        """The right standings to which a letter leads those of a mask."""
        if (mask, letter) not in self.led_masks:
            moves = self.seams.right
            self.led_masks[(mask, letter)] = mask_with([moves[standing][letter] for standing in bits_of(mask)])
        return self.led_masks[(mask, letter)]

    def same_letter(self, standing, letter, number):
        """The right standings with which a letter behind a left standing gets the target letter with a number."""
        return self.seams.told[standing][letter * self.seams.size + number]

    def steps_to(self, spot):
        """The steps that lead to a spot: (letter of the first row, letter of the other row, spot ahead of them)."""
        differ, after, other_after, q = spot
        told = []
        for letter, p in self.left_fed[after]:
            ahead = self.seams.right[q][letter]
            if differ == 0:
                told.append((letter, letter, (0, p, p, ahead)))
                continue
            for other, o in self.left_fed[other_after]:
                told.append((letter, other, (1, p, o, ahead)))
                if p == o and letter != other:
                    told.append((letter, other, (0, p, o, ahead)))
        return told

    def ahead_of(self, spots):
        """The spots from which one letter of each row leads to some spots."""
        found = {}
        for spot, mask in spots.items():
            for letter, other, ahead in self.steps_to(spot):
                number = self.numbers[ahead[1]][letter][spot[3]]
                behind = mask & self.same_letter(ahead[2], other, number)
                if behind:
                    found[ahead] = found.get(ahead, 0) | self.led(behind, other)
        return found

    def fitting(self, spots, letter, wanted):
        """Those of the spots wanted to which a letter of the first row leads from some spots."""
        found = {}
        for (differ, p, o, q), mask in spots.items():
            for end in bits_of(self.seams.fed[letter][q]):
                number = self.numbers[p][letter][end]
                for other, other_after in enumerate(self.seams.left[o]):
                    after = (int(differ == 1 or other != letter), self.seams.left[p][letter], other_after, end)
                    ends = self.same_letter(o, other, number) & wanted.get(after, 0)
                    both = united_bits(mask, self.seams.fed[other]) & ends if ends else 0
                    if both:
                        found[after] = found.get(after, 0) | both
        return found


def is_begun(spots):
    """Whether two different rows may begin at some of the spots."""
    return any([spot[:3] == (0, 0, 0) for spot in spots])


def spots_by_length(twins):
    """For each number of letters the spots that need just as many to the end, until rows begin; or none is left."""
    standings = range(len(twins.seams.left))
    told = [{(1, p, o, 0): 1 for p in standings for o in standings}]
    met = {spot: mask for spot, mask in told[0].items()}
    while told[-1] and not is_begun(told[-1]):
        fresh = {}
        for spot, mask in twins.ahead_of(told[-1]).items():
            rest = mask & ~met.get(spot, 0)
            if rest:
                met[spot] = met.get(spot, 0) | rest
                fresh[spot] = rest
        told.append(fresh)
    return told


def least_twin(layer):
    """The least row that the layer leads to the same row as another one; None if there is none."""
    twins = Twins(layer)
    told = spots_by_length(twins)
    spots = {spot: mask for spot, mask in told[-1].items() if spot[:3] == (0, 0, 0)}
    if not spots:
        return None
    row = ""
    for wanted in reversed(list(told[:-1])):
        choices = [twins.fitting(spots, letter, wanted) for letter in range(len(twins.alphabet))]
        letter = [bool(choice) for choice in choices].index(True)
        spots = choices[letter]
        row = row + twins.alphabet[letter]
    return row
