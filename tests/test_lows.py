"""First comings and low heights ([47])."""

import copy
import itertools
import unittest

from saidhere.contests import Contest
from saidhere.errors import BadAlphabet, BadRow, TooMany
from saidhere.leastpair import least
from saidhere.lows import Low, first_comings, low
from saidhere.pairs import Pair
from saidhere.sayingpairs import pair_of
from saidhere.tense import heights, tense_sheet
from saidhere.tensetext import read_tense
from tests.plainly import chance, counter, is_tuples, pair_marks, placed, random_pair_parts, random_sheet, rows
from tests.test_plain import NO_ALPHABETS


def told(alphabet, text):
    return pair_of(alphabet, ("tense", read_tense(alphabet, text)))


def comings(row):
    return "".join(dict.fromkeys(row))


def seen(row, place, height):
    """What formulas of this height, 0 or 1, can tell of a place."""
    if height == 0:
        return row[place]
    return row[place], comings(row[place + 1:]), comings(row[:place][::-1])


def least_unlike(pair, height, most):
    """The least marked placed row that is alike to an unmarked one, and the least such one, of all short rows."""
    unmarked = {}
    for row, place in placed(pair.alphabet, most):
        if not pair_marks(pair, row)[place]:
            unmarked.setdefault(seen(row, place, height), (row, place))
    for row, place in placed(pair.alphabet, most):
        if pair_marks(pair, row)[place] and seen(row, place, height) in unmarked:
            return (row, place) + unmarked[seen(row, place, height)]
    return None


def low_pair(source, alphabet):
    """A mark of height 1 at most, by chance."""
    forms = (("letter", ("letter",)), ("not", ("part",)), ("and", ("part", "part")), ("or", ("part", "part")))
    sheet = list(random_sheet(source, alphabet, forms, 5))
    for _ in range(4):
        word = source.choice(("next", "prev", "until", "since"))
        many = 1 if word in ("next", "prev") else 2
        sheet.append((word, *(source.randrange(5) for _ in range(many))))
    for _ in range(5):
        sheet.append((source.choice(("and", "or")), source.randrange(len(sheet)), source.randrange(len(sheet))))
    return pair_of(alphabet, ("tense", tuple(sheet)))


class Comings(unittest.TestCase):
    def test_first_comings(self):
        for row, wanted in (("", ""), ("a", "a"), ("bab", "ba"), ("ccabac", "cab"), ("abc" * 60, "abc")):
            self.assertEqual(first_comings("abc", row), wanted)
        self.assertEqual(first_comings(row="hgfedcba" * 20, alphabet="abcdefgh"), "hgfedcba")

    def test_errors_in_their_order(self):
        for thing in NO_ALPHABETS:
            with self.assertRaises(BadAlphabet) as held:
                first_comings(thing, None)
            self.assertIs(held.exception.thing, thing)
        for row, at in (("abx", 2), ("a" * 201, -1), (None, -1), (("a",), -1)):
            with self.assertRaises(BadRow) as held:
                first_comings("ab", row)
            self.assertEqual(held.exception.at, at)

    def test_alike_to_the_height_1(self):
        source = chance(470)
        some = rows("abc", 4, 1)
        for _ in range(150):
            one, other = source.choice(some), source.choice(some)
            levels = Contest("abc", one, other).levels
            alike = {(k, m) for k in range(len(one)) for m in range(len(other)) if seen(one, k, 1) == seen(other, m, 1)}
            self.assertEqual(set(levels[min(1, len(levels) - 1)]), alike)


class Lows(unittest.TestCase):
    def check(self, pair, most):
        found = low(pair=pair)
        self.assertIsInstance(found, Low)
        if found.height == 0:
            self.assertIsNone(found.unlike)
        else:
            wanted = least_unlike(pair, found.height - 1, most)
            if max(len(found.unlike[0]), len(found.unlike[2])) <= most:
                self.assertEqual(found.unlike, wanted)
            else:
                self.assertTrue(wanted is None or wanted[:2] == found.unlike[:2])
            row, place, other, there = found.unlike
            self.assertTrue(pair_marks(pair, row)[place])
            self.assertFalse(pair_marks(pair, other)[there])
            self.assertEqual(seen(row, place, found.height - 1), seen(other, there, found.height - 1))
        if found.height == 2:
            self.assertIsNone(found.sheet)
        else:
            self.assertIsNone(least_unlike(pair, found.height, most))
            self.assertEqual(tense_sheet(pair.alphabet, found.sheet), found.sheet)
            self.assertTrue(is_tuples(found.sheet))
            self.assertEqual(heights(pair.alphabet, found.sheet)[-1], found.height)
            self.assertEqual(pair_of(pair.alphabet, ("tense", found.sheet)), least(pair))
        return found.height

    def test_by_definition(self):
        source = chance(471)
        met = set()
        for _ in range(120):
            alphabet = source.choice(("a", "ab", "abc", "bdh"))
            met.add((self.check(Pair(*random_pair_parts(source, alphabet, 3)), 6 if len(alphabet) < 3 else 4), len(alphabet)))
        for _ in range(60):
            alphabet = source.choice(("a", "ab", "bdh"))
            met.add((self.check(low_pair(source, alphabet), 6 if len(alphabet) < 3 else 5), len(alphabet)))
        self.assertLessEqual({(h, n) for h in range(3) for n in (1, 2, 3)}, met)

    def test_known(self):
        even = Pair("ab", counter(2, 2, (0, 1)), ((0, 0),), ((0, "a", 0), (0, "b", 0)))
        for pair, height, unlike in (
            (Pair.of_letters("ab", "a"), 0, None), (Pair.of_letters("ab", ""), 0, None), (Pair.of_letters("abcd", "abcd"), 0, None),
            (told("ab", "next b"), 1, ("ab", 0, "a", 0)), (told("ab", "a until b"), 1, ("ab", 0, "a", 0)),
            (told("ab", "not next yes"), 1, ("a", 0, "aa", 0)),
            (told("ab", "next next a"), 2, ("aaa", 0, "aa", 0)), (even, 2, ("aaa", 2, "aa", 1)),
            (told("ab", "next (a and next b)"), 2, ("aab", 0, "aaab", 0)),
            # Both places of the least marked row are marked: the first one is told.
            (told("ab", "b and next a or a and prev b"), 1, ("ba", 0, "b", 0)),
        ):
            self.assertEqual(self.check(pair, 5), height)
            self.assertEqual(low(pair).unlike, unlike)
        self.assertEqual(low(Pair.of_letters("ab", "")).sheet, (("no",),))

    def test_marks_that_no_sheet_tells(self):
        even = Pair("a", counter(1, 2), ((0,),), ((0, "a", 0),))
        self.assertEqual((low(even).height, low(even).unlike), (2, ("aaa", 2, "aa", 1)))

    def test_not_least_pairs(self):
        twice = Pair("ab", ((1, 1), (0, 0)), ((0, 1), (1, 0)), tuple((p, "b", q) for p in (0, 1) for q in (0, 1)))
        self.assertEqual((low(twice).height, low(twice).sheet), (0, (("letter", "b"),)))

    def test_four_letters_and_five(self):
        source = chance(472)
        for _ in range(12):
            self.check(low_pair(source, "abcd"), 3)
        for alphabet in ("abcde", "abcdefgh"):
            with self.assertRaises(TooMany) as held:
                low(Pair.of_letters(alphabet, "a"))
            self.assertEqual(held.exception.word, "letter")

    def test_many_standings(self):
        # The letter that comes first on each side and what comes second tell 17 standings a side.
        source = chance(474)
        names = [""] + ["a", "b", "c", "d"] + [x + y for x in "abcd" for y in "abcd" if x != y]
        moves = tuple(tuple(names.index(comings(x + name)[:2]) for x in "abcd") for name in names)
        marked = tuple(
            (p, x, q) for p in range(17) for x in "abcd" for q in range(17) if source.random() < 0.5
        )
        pair = Pair("abcd", moves, moves, marked)
        self.assertEqual(len(least(pair).left), 17)
        found = low(pair)
        self.assertEqual(found.height, 1)
        self.assertLessEqual(len(found.sheet), 6000)
        self.assertEqual(pair_of("abcd", ("tense", found.sheet)), least(pair))

    def test_a_large_sheet(self):
        # The first comings of a, b and c, and whether there is a d: 32 standings a side, marked by chance.
        source = chance(475)
        names = [""] + ["".join(some) for n in (1, 2, 3) for some in itertools.permutations("abc", n)]
        kinds = [(name, d) for name in names for d in (False, True)]
        moves = tuple(
            tuple(kinds.index((name, True) if x == "d" else (comings(x + name), d)) for x in "abcd") for name, d in kinds
        )
        marked = tuple((p, x, q) for p in range(32) for x in "abcd" for q in range(32) if source.random() < 0.5)
        pair = Pair("abcd", moves, moves, marked)
        self.assertEqual(len(least(pair).right), 32)
        found = low(pair)
        self.assertEqual((found.height, heights("abcd", found.sheet)[-1]), (1, 1))
        self.assertLessEqual(len(found.sheet), 6000)
        self.assertEqual(pair_of("abcd", ("tense", found.sheet)), least(pair))

    def test_nothing_is_changed(self):
        pair = told("ab", "next b")
        before = copy.deepcopy(vars(pair))
        low(pair)
        self.assertEqual(vars(pair), before)


if __name__ == "__main__":
    unittest.main()
