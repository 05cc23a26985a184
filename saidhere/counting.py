"""Rows of a length, counted by how many of their places are marked.

The numbers of rows behind a spot are told for each left and right standing there by one integer, in which the
number of rows with m marked places has its own bits, from the bit m * width on.
"""

from saidhere.masks import has_bit

MOST_COUNTED = 60
# An alphabet has at most 8 letters, so there are at most 8 ** n rows.
LETTER_BITS = 3


class Counts:
    """How many rows of each length up to n there are behind each seam, with each number of marked places."""

    def __init__(self, small, n):
        self.small = small
        self.n = n
        self.width = LETTER_BITS * n + 1
        self.tables = [[[int(q == 0) for q in range(len(small.right))] for _ in small.left]]
        for _ in range(n):
            self.tables.append(self.ahead_of(self.tables[-1]))

    def ahead_of(self, table):
        """The same with one letter more."""
        small = self.small
        found = [[0 for _ in small.right] for _ in small.left]
        for p, move in enumerate(small.left):
            for letter, after in enumerate(move):
                mask = small.masks[p][letter]
                for q, many in enumerate(table[after]):
                    if many:
                        ahead = small.right[q][letter]
                        found[p][ahead] += many << self.width if has_bit(mask, q) else many
        return found

    def among(self, worth, many):
        """The number of rows with so many marked places."""
        if many < 0:
            return 0
        return (worth >> (self.width * many)) & ((1 << self.width) - 1)

    def totals(self):
        """The number of rows of the length n with each number of marked places."""
        whole = sum(self.tables[self.n][0])
        return [self.among(whole, many) for many in range(self.n + 1)]

    def begun(self):
        """A row that has not begun: its left standing, and for each right standing the marked places so far."""
        return 0, [0 for _ in self.small.right]

    def gone_on(self, begin, letter):
        """What a row is that has one letter more; how many places are marked hangs on what is behind, too."""
        p, marked = begin
        mask = self.small.masks[p][letter]
        after = [marked[move[letter]] + int(has_bit(mask, q)) for q, move in enumerate(self.small.right)]
        return self.small.left[p][letter], after

    def ways_left(self, begin, left, many):
        """The number of ways to go on for so many letters and to have so many marked places in all."""
        p, marked = begin
        return sum([self.among(worth, many - m) for worth, m in zip(self.tables[left][p], marked)])


def row_with(counts, many, number):
    """The row of the length n with so many marked places that has this number."""
    begin = counts.begun()
    row = ""
    for left in range(counts.n - 1, -1, -1):
        for letter, word in enumerate(counts.small.alphabet):
            after = counts.gone_on(begin, letter)
            ways = counts.ways_left(after, left, many)
            if number < ways:
                break
            number = number - ways
        begin = after
        row = row + word
    return row


def number_with(counts, many, letters):
    """The number of a row of the length n with so many marked places, by the numbers of its letters."""
    begin = counts.begun()
    number = 0
    left = counts.n
    for letter in letters:
        left -= 1
        for lesser in range(letter):
            number += counts.ways_left(counts.gone_on(begin, lesser), left, many)
        begin = counts.gone_on(begin, letter)
    return number
