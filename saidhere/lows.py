"""Marks of a low height: told by the letter of a place alone, or by it and by what comes first around it."""

from saidhere.comings import Comings, comings_reader
from saidhere.errors import TooMany
from saidhere.leastpair import least
from saidhere.machines import numbered
from saidhere.masks import has_bit, lowest, mask_of, spread
from saidhere.plain import check_alphabet, check_row
from saidhere.readers import reached_ahead, reached_behind
from saidhere.sheets import tidied
from saidhere.splitting import chosen

MOST_LOW = 4


class Low:
    """The low height of a mark, with a sheet that has it, and two placed rows that show that it is not less."""

    def __init__(self, height, sheet, unlike):
        self.height = height
        self.sheet = sheet
        self.unlike = unlike


def first_comings(alphabet, row):
    """The different letters of the row, in the order in which they first come."""
    check_alphabet(alphabet)
    check_row(alphabet, row)
    return "".join([letter for at, letter in enumerate(row) if letter not in row[:at]])


class Rough:
    """A least pair together with a reader of each side that tells what is seen of rows alone.

    Heads are the left standings with what is seen of the rows that lead there, and their least rows; tails alike.
    """

    def __init__(self, small, seen):
        self.small = small
        self.heads, self.head_rows, _ = reached_ahead(small.alphabet, (small.left, seen), None)
        self.tails, self.tail_rows, _ = reached_behind(small.alphabet, (small.right, seen), None)
        self.marked = spread(small.masks, [q for q, f in self.tails])
        self.whole = (1 << len(self.tails)) - 1
        self.seen_as = [mask_of([f == number for q, f in self.tails]) for number in range(len(seen))]

    def ends(self, standing, letter, wanted):
        """The tails with which a place is marked, or is not."""
        mask = self.marked[standing][letter]
        return mask if wanted else self.whole ^ mask

    def mixed(self):
        """For what is seen ahead and each letter, the mask of the tails such that what is seen tells not enough."""
        marked = {}
        unmarked = {}
        for p, g in self.heads:
            for letter in range(len(self.small.alphabet)):
                marked[(g, letter)] = marked.get((g, letter), 0) | self.ends(p, letter, True)
                unmarked[(g, letter)] = unmarked.get((g, letter), 0) | self.ends(p, letter, False)
        found = {}
        for key, mask in marked.items():
            both = [some for some in self.seen_as if some & mask and some & unmarked[key]]
            found[key] = sum(both)
        return found

    def least_of(self, limits, wanted):
        """The least placed row that is marked, or is not, with such limits on its tails: (row, place, seen)."""
        found = []
        for (p, g), row in zip(self.heads, self.head_rows):
            for letter, word in enumerate(self.small.alphabet):
                ends = self.ends(p, letter, wanted) & limits.get((g, letter), 0)
                if ends:
                    end = lowest(ends)
                    found.append((row + word + self.tail_rows[end], len(row), (g, letter, self.tails[end][1])))
        return min(found, key=lambda one: (len(one[0]), one[0], one[1]), default=None)

    def least_unlike(self):
        """The least marked placed row that is seen as an unmarked one is, and the least such one; or None."""
        found = self.least_of(self.mixed(), True)
        if found is None:
            return None
        row, place, (g, letter, f) = found
        other = self.least_of({(g, letter): self.seen_as[f]}, False)
        return row, place, other[0], other[1]


def grouped(formulas, word, seen, kinds):
    """For each kind, the part that holds where what is seen is of this kind; kinds has that of each thing seen."""
    told = [formulas.coming(word, letters) for letters in seen]
    return [formulas.any_of([x for x, kind in zip(told, kinds) if kind == k]) for k in range(max(kinds) + 1)]


def sheet_of(rough, seen):
    """A tense sheet of height 1 for a mark that is told by what is seen around a place.

    What is seen ahead is of one kind if it brings the same marks; what is seen behind, alike.
    """
    letters = range(len(rough.small.alphabet))
    tails = {f: at for at, (q, f) in enumerate(rough.tails)}
    marks = {}
    for standing, head in rough.heads:
        masks = [rough.ends(standing, letter, True) for letter in letters]
        marks[head] = [[has_bit(mask, tails[f]) for f in range(len(seen))] for mask in masks]
    ahead = [tuple([tuple(some) for some in marks[g]]) for g in range(len(seen))]
    behind = [tuple([marks[g][k][f] for g in range(len(seen)) for k in letters]) for f in range(len(seen))]
    formulas = Comings(rough.small.alphabet)
    heads = grouped(formulas, "since", seen, numbered(ahead))
    ends = grouped(formulas, "until", seen, numbered(behind))
    firsts = [numbered(behind).index(kind) for kind in range(len(ends))]
    found = formulas.no
    for kind, head in enumerate(heads):
        rows = ahead[numbered(ahead).index(kind)]
        for letter, row in zip(rough.small.alphabet, rows):
            rest = chosen(formulas, ends, mask_of([row[first] for first in firsts]))
            here = formulas.both(formulas.made(("letter", letter)), rest)
            found = formulas.either(found, formulas.both(head, here))
    return tidied(formulas.parts, found)


def letter_sheet(small):
    """A tense sheet of height 0 for a mark that is told by the letter of a place alone."""
    formulas = Comings(small.alphabet)
    marked = [letter for letter, mask in zip(small.alphabet, small.masks[0]) if mask]
    return tidied(formulas.parts, formulas.any_of([formulas.made(("letter", letter)) for letter in marked]))


def low(pair):
    """The low height of the mark of a pair: a Low."""
    if len(pair.alphabet) > MOST_LOW:
        raise TooMany("letter")
    small = least(pair)
    blind = (tuple([0 for _ in pair.alphabet]),)
    unlike = Rough(small, blind).least_unlike()
    if unlike is None:
        return Low(0, letter_sheet(small), None)
    seen, moves = comings_reader(pair.alphabet)
    rough = Rough(small, moves)
    farther = rough.least_unlike()
    if farther is None:
        return Low(1, sheet_of(rough, seen), unlike)
    return Low(2, None, farther)
