"""Derivations of tense sheets are judged, step by step, by what has to hold for all rows.

If the steps ahead are right, a step is asked at the items of the readers of its own pair, called whole,
and of the pairs that it refers to. What a pair marks is told by masks over the items behind; what looks
back is asked as what looks forward in the mirrored pairs.
"""

from saidhere.kinds import is_listing
from saidhere.leastpair import least
from saidhere.masks import has_bit, spread
from saidhere.pairs import Pair
from saidhere.pairworks import mirrored
from saidhere.readers import reached_ahead, reached_behind
from saidhere.sheets import referred, renumbered
from saidhere.tense import EARLIER, LATER, MIRRORED, tense_sheet


class Asked:
    """Several pairs together: their items ahead and behind, and what each marks, by masks over those behind.

    At `marks[k][p][a]` is where pair k, standing at p, marks the letter a; the pair 0 is asked about, and
    `later[b][p][a]` is the same for it, with the letter b put ahead of each row behind.
    """

    def __init__(self, alphabet, pairs):
        self.ahead, _, self.onward = reached_ahead(alphabet, [pair.left for pair in pairs], None)
        behind, _, backward = reached_behind(alphabet, [pair.right for pair in pairs], None)
        self.whole = (1 << len(behind)) - 1
        self.columns = [spread(pair.masks, [item[k] for item in behind]) for k, pair in enumerate(pairs)]
        self.later = []
        for letter in range(len(alphabet)):
            after = [behind[move[letter]][0] for move in backward]
            self.later.append(spread(pairs[0].masks, after))


def wanted_here(alphabet, part, asked, item):
    """For each letter, the items behind with which a part that looks at one place is to hold."""
    word = part[0]
    if word in ("yes", "no", "letter"):
        return [asked.whole if word == "yes" or letter in part[1:] else 0 for letter in alphabet]
    first = asked.columns[1][item[1]]
    if word == "not":
        return [asked.whole ^ mask for mask in first]
    second = asked.columns[2][item[2]]
    if word == "and":
        return [x & y for x, y in zip(first, second)]
    return [x | y for x, y in zip(first, second)]


def is_led(alphabet, readers):
    """Whether the standing of the first of some readers of one side hangs on those of the others alone.

    In a right step of least pairs it does ahead, and if the part looks at one place, also behind. To see
    this first keeps the items few.
    """
    others = reached_ahead(alphabet, readers[1:], None)[0]
    return len(reached_ahead(alphabet, readers, None)[0]) == len(others)


def is_right_here(alphabet, part, pairs):
    """Whether a step that looks at one place is right."""
    asked = Asked(alphabet, pairs)
    return all([
        list(asked.columns[0][item[0]]) == wanted_here(alphabet, part, asked, item) for item in asked.ahead
    ])


def wanted_later(word, asked, item):
    """For each letter that comes next, the items behind it with which `next` or `until` is to hold.

    The item is that behind the letter at the place.
    """
    aims = asked.columns[-1][item[-1]]
    if word == "next":
        return aims
    return [aim | (way & whole) for aim, way, whole in zip(aims, asked.columns[1][item[1]], asked.columns[0][item[0]])]


def is_right_later(alphabet, word, pairs):
    """Whether a step of `next` or `until` is right."""
    asked = Asked(alphabet, pairs)
    for item, move in zip(asked.ahead, asked.onward):
        for letter, follower in enumerate(move):
            # The right standing 0 is that of the empty row, behind which nothing comes.
            if has_bit(pairs[0].masks[item[0]][letter], 0):
                return False
            wanted = wanted_later(word, asked, asked.ahead[follower])
            if [later[item[0]][letter] for later in asked.later] != list(wanted):
                return False
    return True


def is_right_step(alphabet, part, pairs):
    """Whether a step is right: the least pairs are that of the part, and those of the parts it refers to."""
    if part[0] in EARLIER:
        turned = (MIRRORED[part[0]],) + part[1:]
        return is_right_step(alphabet, turned, [mirrored(pair) for pair in pairs])
    if not is_led(alphabet, [pair.left for pair in pairs]):
        return False
    if part[0] in LATER:
        return is_right_later(alphabet, part[0], pairs)
    return is_led(alphabet, [pair.right for pair in pairs]) and is_right_here(alphabet, part, pairs)


class Judged:
    """Pairs as they are judged: the different least ones, and the steps that are known to be right."""

    def __init__(self, alphabet):
        self.alphabet = alphabet
        self.pairs = []
        self.listed_at = {}
        self.met = {}
        self.steps = {}

    def number_of(self, pair):
        """The number of the least pair of a pair: alike marks have one number."""
        key = (pair.left, pair.right, pair.marked)
        if key not in self.met:
            small = least(pair)
            found = (small.left, small.right, small.marked)
            if found not in self.listed_at:
                self.listed_at[found] = len(self.pairs)
                self.pairs.append(small)
            self.met[key] = self.listed_at[found]
        return self.met[key]

    def is_right(self, part, number, numbers):
        """Whether the pair with this number is right for a part, those with the numbers being right ahead."""
        step = renumbered(part, numbers)
        if step in self.steps:
            return self.steps[step] == number
        pairs = [self.pairs[number]] + [self.pairs[numbers[other]] for other in referred(part)]
        if not is_right_step(self.alphabet, part, pairs):
            return False
        self.steps[step] = number
        return True


def first_wrong_tense(alphabet, sheet, pairs):
    """The number of the first step of a derivation that is not right, the number of parts if all are."""
    kept = tense_sheet(alphabet, sheet)
    if not is_listing(pairs) or len(pairs) != len(kept):
        return -1
    judged = Judged(alphabet)
    numbers = []
    for part, pair in zip(kept, pairs):
        if not isinstance(pair, Pair) or pair.alphabet != alphabet:
            return len(numbers)
        number = judged.number_of(pair)
        if not judged.is_right(part, number, numbers):
            return len(numbers)
        numbers.append(number)
    return len(kept)
