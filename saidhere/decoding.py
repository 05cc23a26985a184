"""What undoes a clear layer, found by rows that need different standings of it.

A standing of its left reader is told by the stand of seams (seams.py) to which a row leads: a head. One of its
right reader is told by the stand from which a row can be led to, a tail. Heads are told apart by the letters
that they give between them and tails, and by tests: a rest behind the head, a letter and a stand. Tails are
told apart alike. When no more heads and tails come up, they make a layer; if it does not undo the first one,
a row where it fails brings a test that tells one more head or tail apart.
"""

from saidhere.joining import feeders, mirrored_machine, seams_after
from saidhere.layers import Layer, led_row, machine_of
from saidhere.masks import lowest, mask_of
from saidhere.readers import MOST_STANDINGS, check_most, led_standings
from saidhere.seams import Seams


def letter_among(choices, tail):
    """The letter of the choices that can come ahead of a tail; in a clear layer there is just one."""
    for letter, after, mask in choices:
        if mask & tail[after]:
            return letter
    return None


class Decoding:
    """The heads and the tails found so far, and the tests that tell them apart."""

    def __init__(self, layer):
        self.seams = Seams(layer)
        self.heads = [self.seams.first()]
        self.tails = [self.seams.last()]
        self.head_tests = []
        self.tail_tests = []
        self.chosen = {}

    def choices(self, stand, number):
        """What can be led to a target letter behind a stand: (letter, left standing, mask of right standings)."""
        if (stand, number) not in self.chosen:
            told = []
            for standing, mask in enumerate(stand):
                for letter, (after, behind) in enumerate(self.seams.steps_behind(standing, mask, number)):
                    if behind:
                        told.append((letter, after, behind))
            self.chosen[(stand, number)] = told
        return self.chosen[(stand, number)]

    def stand_behind(self, stand, numbers):
        """The stand behind some target letters."""
        for number in numbers:
            stand = self.seams.stand_after(stand, number)
        return stand

    def stand_ahead(self, stand, numbers):
        """The stand ahead of some target letters."""
        for number in reversed(list(numbers)):
            stand = self.seams.stand_before(stand, number)
        return stand

    def head_sign(self, stand):
        """What tells a head apart from others."""
        targets = range(self.seams.size)
        sign = [letter_among(self.choices(stand, number), tail) for number in targets for tail in self.tails]
        for rest, number, tail in self.head_tests:
            sign.append(letter_among(self.choices(self.stand_behind(stand, rest), number), tail))
        return tuple(sign)

    def tail_sign(self, stand):
        """What tells a tail apart from others."""
        targets = range(self.seams.size)
        sign = [letter_among(self.choices(head, number), stand) for number in targets for head in self.heads]
        for head, number, rest in self.tail_tests:
            sign.append(letter_among(self.choices(head, number), self.stand_ahead(stand, rest)))
        return tuple(sign)

    def head_moves(self):
        """The moves between heads, with those added to which they lead."""
        signs = {self.head_sign(head): at for at, head in enumerate(self.heads)}
        targets = range(self.seams.size)
        moves = []
        while len(moves) < len(self.heads):
            move = []
            for number in targets:
                after = self.seams.stand_after(self.heads[len(moves)], number)
                sign = self.head_sign(after)
                if sign not in signs:
                    signs[sign] = len(self.heads)
                    self.heads.append(after)
                    check_most(len(self.heads), MOST_STANDINGS)
                move.append(signs[sign])
            moves.append(tuple(move))
        return moves

    def tail_moves(self):
        """The moves between tails, with those added to which they lead."""
        signs = {self.tail_sign(tail): at for at, tail in enumerate(self.tails)}
        targets = range(self.seams.size)
        moves = []
        while len(moves) < len(self.tails):
            move = []
            for number in targets:
                ahead = self.seams.stand_before(self.tails[len(moves)], number)
                sign = self.tail_sign(ahead)
                if sign not in signs:
                    signs[sign] = len(self.tails)
                    self.tails.append(ahead)
                    check_most(len(self.tails), MOST_STANDINGS)
                move.append(signs[sign])
            moves.append(tuple(move))
        return moves

    def closed(self):
        """The moves between heads and between tails, when no more of them come up."""
        many = 0
        left, right = [], []
        while many != len(self.heads) + len(self.tails):
            many = len(self.heads) + len(self.tails)
            left = self.head_moves()
            right = self.tail_moves()
        return left, right

    def guess(self):
        """The layer that the heads and tails make."""
        left, right = self.closed()
        told = []
        for head in self.heads:
            choices = [self.choices(head, number) for number in range(self.seams.size)]
            letters = [[letter_among(some, tail) for tail in self.tails] for some in choices]
            told.append([[self.seams.alphabet[letter] for letter in row] for row in letters])
        return Layer(self.seams.target, self.seams.alphabet, left, right, told)

    def learn(self, guess, row, place):
        """Add a test by a row that the layer made so far does not lead back at a place."""
        numbers = self.seams.letter_numbers(row)
        number, ahead, behind = numbers[place], numbers[:place], numbers[place + 1:]
        tail = self.stand_ahead(self.seams.last(), behind)
        right = letter_among(self.choices(self.stand_behind(self.seams.first(), ahead), number), tail)
        heads = [self.heads[standing] for standing in led_standings(guess.left, ahead)]
        if letter_among(self.choices(heads[-1], number), tail) != right:
            self.learn_head(heads, ahead, number, tail, right)
        else:
            tails = [self.tails[standing] for standing in led_standings(guess.right, behind[::-1])]
            self.learn_tail(heads[-1], number, behind, tails[::-1], right)

    def learn_head(self, heads, ahead, number, tail, right):
        """Add a test that tells apart a head and what the head ahead of it leads to."""
        good, bad = 0, len(ahead)
        while bad - good > 1:
            at = (good + bad) // 2
            stand = self.stand_behind(heads[at], ahead[at:])
            if letter_among(self.choices(stand, number), tail) == right:
                good = at
            else:
                bad = at
        self.head_tests.append((ahead[bad:], number, tail))

    def learn_tail(self, head, number, behind, tails, right):
        """Add a test that tells apart a tail and what the tail behind it leads to."""
        good, bad = len(behind), 0
        while good - bad > 1:
            at = (good + bad) // 2
            stand = self.stand_ahead(tails[at], behind[:at])
            if letter_among(self.choices(head, number), stand) == right:
                good = at
            else:
                bad = at
        self.tail_tests.append((head, number, behind[:bad]))


def rows_met(alphabet, one, other):
    """All (p, q, x) such that some row leads to p, and to x with a row behind it that leads to q, with such rows."""
    fed = feeders(one[1])
    rows = {(0, q, 0): "" for q in range(len(one[1]))}
    met = list(rows)
    at = 0
    while at < len(met):
        seam = met[at]
        for (letter, _), after in zip(fed[seam[1]], seams_after(one, other, fed, seam)):
            if after not in rows:
                rows[after] = rows[seam] + alphabet[letter]
                met.append(after)
        at += 1
    return rows


def ends_met(alphabet, one, other):
    """For each p and q, the right standings of the other machine by rows behind with this q: (mask, rows)."""
    found = {}
    for (q, p, s), row in rows_met(alphabet, mirrored_machine(one), mirrored_machine(other)).items():
        mask, rows = found.get((p, q), (0, ()))
        found[(p, q)] = (mask | (1 << s), rows + ((s, row[::-1]),))
    return found


def row_not_led_back(layer, guess):
    """A row and a place at which a guess does not undo the layer; None if it does everywhere."""
    one, other = machine_of(layer), machine_of(guess)
    fed = feeders(layer.right)
    ends = ends_met(layer.alphabet, one, other)
    letters = range(len(layer.alphabet))
    good = [[[mask_of([worth == k for worth in told]) for k in letters] for told in items] for items in other[2]]
    for (p, q, x), row in rows_met(layer.alphabet, one, other).items():
        for letter, end in fed[q]:
            mask, rows = ends[(layer.left[p][letter], end)]
            bad = mask & ~good[x][one[2][p][letter][end]][letter]
            if bad:
                rest = [behind for s, behind in rows if s == lowest(bad)]
                return row + layer.alphabet[letter] + rest[0], len(row)
    return None


def decoded(layer):
    """The layer that undoes a clear layer, which is a least one."""
    decoding = Decoding(layer)
    while True:
        guess = decoding.guess()
        found = row_not_led_back(layer, guess)
        if found is None:
            return guess
        row, place = found
        decoding.learn(guess, led_row(layer, row), place)
