"""Marks through a glass ([41], [43]) and joints ([44])."""

import copy
import unittest

from saidhere.always import follows
from saidhere.errors import BadGlass, TooMany, Unlike
from saidhere.glasses import seen_alphabet, seen_row
from saidhere.joints import Joint, joint
from saidhere.layers import Layer
from saidhere.layerworks import drawn_back
from saidhere.leastpair import least
from saidhere.pairs import Pair
from saidhere.sayingpairs import pair_of
from saidhere.tensetext import read_tense
from saidhere.through import Through, perhaps, sure, through
from saidhere.turnings import is_steady
from tests.plainly import chance, counter, pair_marks, random_moves, random_pair_parts, rows
from tests.test_glasses import NO_GLASSES


def told(alphabet, text):
    return pair_of(alphabet, ("tense", read_tense(alphabet, text)))


# Marked if the row ahead is empty or ab, abab, and so on.
TURNS = Pair("ab", ((1, 2), (2, 0), (2, 2)), ((0, 0),), ((0, "a", 0), (0, "b", 0)))


def shows(alphabet, glass, most):
    """The rows that show each seen row."""
    found = {}
    for row in rows(alphabet, most):
        found.setdefault(seen_row(alphabet, glass, row), []).append(row)
    return found


def least_parted(first, second, glass, most):
    """The least placed row of the first mark that the second one has not in some row alike, and the least such one."""
    shown = shows(first.alphabet, glass, most)
    for row in rows(first.alphabet, most):
        for place, marked in enumerate(pair_marks(first, row)):
            for other in shown[seen_row(first.alphabet, glass, row)] if marked else ():
                if not pair_marks(second, other)[place]:
                    return row, other, place
    return None


def some_pairs(source, many, standings=3):
    for number in range(many):
        alphabet = source.choice(("a", "ab", "abc", "bdh"))
        one = Pair(*random_pair_parts(source, alphabet, standings))
        other = Pair(*random_pair_parts(source, alphabet, standings))
        glass = "".join(source.choices("abh", k=len(alphabet)))
        yield one, one | other if number % 3 == 0 else other, glass


def most_of(alphabet):
    return 5 if len(alphabet) < 3 else 4


class Told(unittest.TestCase):
    def test_by_definition(self):
        seen = set()
        for pair, _, glass in some_pairs(chance(430), 200):
            most = most_of(pair.alphabet)
            found = least_parted(pair, pair, glass, most)
            result = through(pair=pair, glass=glass)
            self.assertIsInstance(result, Through)
            self.assertIs(bool(result), result.holds)
            seen.add(result.holds)
            if result.holds:
                self.assertEqual((found, result.row, result.other, result.place), (None, None, None, None))
                self.assertEqual(result.pair, least(result.pair))
                self.assertEqual(result.pair.alphabet, seen_alphabet(pair.alphabet, glass))
                for shown, some in shows(pair.alphabet, glass, most).items():
                    self.assertEqual({pair_marks(pair, row) for row in some}, {pair_marks(result.pair, shown)})
                self.assertEqual(result.pair, sure(pair, glass))
                self.assertEqual(result.pair, perhaps(pair, glass))
            else:
                self.assertIsNone(result.pair)
                self.assertTrue(found == (result.row, result.other, result.place) or (
                    found is None and len(result.row) > most))
        self.assertEqual(seen, {True, False})

    def test_known(self):
        letter = Pair.of_letters("abc", "b")
        result = through(letter, "hbh")
        self.assertEqual(result.pair, Pair.of_letters("bh", "b"))
        # The letters are seen in another order.
        self.assertEqual(through(letter, "cab").pair, Pair.of_letters("abc", "a"))
        self.assertEqual(through(told("ab", "next b"), "ba").pair, told("ab", "next a"))
        result = through(letter, "aab")
        self.assertEqual((result.row, result.other, result.place), ("b", "a", 0))
        result = through(told("ab", "prev b and not next yes"), "cc")
        self.assertEqual((result.row, result.other, result.place), ("ba", "aa", 1))
        # The least other row may be greater than the row.
        result = through(told("ab", "next a"), "dd")
        self.assertEqual((result.row, result.other, result.place), ("aa", "ab", 0))
        # The place is marked in a row of b and a alone; the other row is unlike it ahead and behind.
        result = through(told("ab", "not next b or not prev b"), "aa")
        self.assertEqual((result.row, result.other, result.place), ("aaa", "bab", 1))

    def test_seeing_all_alike_and_none(self):
        even = Pair("ab", counter(2, 2, (0, 1)), ((0, 0),), ((0, "a", 0), (0, "b", 0)))
        self.assertEqual(through(even, "hh").pair, Pair("h", ((1,), (0,)), ((0,),), ((0, "h", 0),)))
        for pair in (TURNS, even, told("ab", "a until b")):
            self.assertEqual(through(pair, "ab").pair, least(pair))

    def test_a_glass_is_a_layer_of_one_standing_a_side(self):
        for pair, other, glass in some_pairs(chance(431), 60, 2):
            target = seen_alphabet(pair.alphabet, glass)
            still = (tuple(0 for _ in pair.alphabet),)
            layer = Layer(pair.alphabet, target, still, still, (tuple((letter,) for letter in glass),))
            for row in rows(pair.alphabet, 3):
                self.assertEqual(layer(row), seen_row(pair.alphabet, glass, row))
            result = through(pair, glass)
            if result:
                self.assertEqual(drawn_back(layer, result.pair), least(pair))
            # What is drawn back is told through the glass, and is what it was.
            back = drawn_back(layer, Pair.of_letters(target, target[0]))
            self.assertEqual(through(back, glass).pair, Pair.of_letters(target, target[0]))
            self.assertTrue(follows(drawn_back(layer, sure(pair, glass)), pair))
            self.assertTrue(follows(pair, drawn_back(layer, perhaps(pair, glass))))

    def test_errors(self):
        for call in (through, sure, perhaps, lambda pair, glass: joint(pair, pair, glass)):
            for thing in NO_GLASSES:
                with self.assertRaises(BadGlass) as held:
                    call(TURNS, thing)
                self.assertIs(held.exception.thing, thing)


class SureAndPerhaps(unittest.TestCase):
    def test_by_definition(self):
        for pair, _, glass in some_pairs(chance(432), 120):
            certain, possible = sure(pair=pair, glass=glass), perhaps(glass=glass, pair=pair)
            for one in (certain, possible):
                self.assertEqual((one, one.alphabet), (least(one), seen_alphabet(pair.alphabet, glass)))
            for shown, some in shows(pair.alphabet, glass, most_of(pair.alphabet)).items():
                columns = list(zip(*[pair_marks(pair, row) for row in some]))
                self.assertEqual(pair_marks(certain, shown), tuple(all(x) for x in columns))
                self.assertEqual(pair_marks(possible, shown), tuple(any(x) for x in columns))

    def test_they_need_not_be_steady(self):
        self.assertTrue(is_steady(TURNS))
        possible = perhaps(TURNS, "aa")
        self.assertEqual(possible("aaaaaaa"), (True, False) * 3 + (True,))
        self.assertFalse(is_steady(possible))
        self.assertFalse(is_steady(sure(~TURNS, "aa")))
        # At the first place the row ahead is empty in all rows; behind it there is always another row.
        self.assertEqual(sure(TURNS, "aa")("aaa"), (True, False, False))

    def test_300_and_301_sets(self):
        for letters, sides, word in (
            (((1, 13, 23), (1, 1, 1)), "left", None), (((1, 12, 25), (1, 1, 1)), "left", "set"),
            (((1, 1, 1), (1, 13, 23)), "right", None), (((1, 1, 1), (1, 12, 25)), "right", "set"),
            (((1, 12, 25), (1, 12, 25)), "both", "set"),
        ):
            pair = with_sets(letters[0], letters[1])
            small = least(pair)
            self.assertEqual((len(small.left), len(small.right)), (len(pair.left), len(pair.right)), sides)
            # At 300 the pair that would be told has more than 40 standings.
            for call in (sure, perhaps):
                with self.assertRaises(TooMany) as held:
                    call(pair, "aa")
                self.assertEqual(held.exception.word, word or "standing")
            self.assertIs(through(pair, "aa").holds, False)
        # No sets at all are too many if nothing is marked.
        self.assertEqual(perhaps(pair & Pair.of_letters("ab", ""), "aa"), Pair.of_letters("a", ""))

    def test_forty_and_forty_one_standings(self):
        # Perhaps marked are the places with a number of letters ahead that, less 1, 5 or 8 divides: the empty row
        # ahead is as one of 40 letters is, unless its place is marked, too.
        forty = with_sets((1, 5, 8), (1, 1, 1))
        more = forty | told("ab", "not prev yes")
        self.assertEqual((len(least(forty).left), len(least(more).left)), (14, 14))
        self.assertEqual(len(perhaps(forty, "aa").left), 40)
        self.assertEqual(len(sure(~forty, "bb").left), 40)
        self.assertEqual(len(joint(forty, Pair.of_letters("ab", "ab"), "aa").strongest.left), 40)
        yes, no = Pair.of_letters("ab", "ab"), Pair.of_letters("ab", "")
        for call in (
            lambda: perhaps(more, "aa"), lambda: sure(~more, "aa"),
            lambda: joint(more, yes, "aa"), lambda: joint(no, ~more, "aa"),
        ):
            with self.assertRaises(TooMany) as held:
                call()
            self.assertEqual(held.exception.word, "standing")

    def test_nothing_is_changed(self):
        before = copy.deepcopy(vars(TURNS))
        for call in (through, sure, perhaps):
            call(TURNS, "aa")
        self.assertEqual(vars(TURNS), before)


def with_sets(left, right):
    """A pair that leads a from its first standing to a cycle, and b to another one, on both sides.

    Marked is what comes behind a row that leads to the beginning of a cycle, if what is behind it does, too.
    """
    def moves(chain, one, other):
        told = [(1, 1 + one)] if (one, other) != (1, 1) else [(0, 0)]
        if told == [(0, 0)]:
            return tuple(told)
        told += [(1 + (k + 1) % one,) * 2 for k in range(one)]
        told += [(1 + one + (k + 1) % other,) * 2 for k in range(other)]
        return tuple(told)

    heads, tails = moves(*left), moves(*right)
    begins = [0] if len(heads) == 1 else [1, 1 + left[1]]
    ends = [0] if len(tails) == 1 else [1, 1 + right[1]]
    return Pair("ab", heads, tails, tuple((p, a, q) for p in begins for a in "ab" for q in ends))


class Joints(unittest.TestCase):
    def test_by_definition(self):
        seen = set()
        for first, second, glass in some_pairs(chance(440), 200):
            most = most_of(first.alphabet)
            found = least_parted(first, second, glass, most)
            result = joint(first=first, second=second, glass=glass)
            self.assertIsInstance(result, Joint)
            self.assertIs(bool(result), result.holds)
            seen.add(result.holds)
            if result.holds:
                self.assertIsNone(found)
                self.assertEqual((result.row, result.other, result.place), (None, None, None))
                self.assertEqual((result.strongest, result.weakest), (perhaps(first, glass), sure(second, glass)))
                self.assertIs(result.steady, is_steady(result.strongest) or is_steady(result.weakest))
                self.assertTrue(follows(result.strongest, result.weakest))
            else:
                self.assertEqual((result.strongest, result.weakest, result.steady), (None, None, None))
                self.assertTrue(found == (result.row, result.other, result.place) or (
                    found is None and len(result.row) > most))
        self.assertEqual(seen, {True, False})

    def test_one_alone_many_and_none(self):
        letter = Pair.of_letters("abc", "b")
        result = joint(letter, letter, "hbh")
        self.assertEqual((result.strongest, result.weakest), (Pair.of_letters("bh", "b"),) * 2)
        result = joint(letter, Pair.of_letters("abc", "abc"), "aab")
        self.assertEqual((result.strongest, result.weakest), (Pair.of_letters("ab", "a"), Pair.of_letters("ab", "ab")))
        result = joint(Pair.of_letters("abc", ""), letter, "aab")
        self.assertEqual((result.strongest, result.weakest), (Pair.of_letters("ab", ""), Pair.of_letters("ab", "")))
        result = joint(letter, letter, "aab")
        self.assertEqual((result.holds, result.row, result.other, result.place), (False, "b", "a", 0))
        # The row itself may be the other one.
        result = joint(letter, Pair.of_letters("abc", "a"), "abc")
        self.assertEqual((result.row, result.other, result.place), ("b", "b", 0))
        result = joint(letter, Pair.of_letters("abc", ""), "abb")
        self.assertEqual((result.row, result.other, result.place), ("b", "b", 0))

    def test_steady_and_not(self):
        yes = Pair.of_letters("ab", "ab")
        result = joint(TURNS, yes, "aa")
        self.assertEqual((is_steady(result.strongest), result.steady), (False, True))
        result = joint(Pair.of_letters("ab", ""), ~TURNS, "aa")
        self.assertEqual((is_steady(result.weakest), result.steady), (False, True))
        even = Pair("ab", counter(2, 2, (0, 1)), ((0, 0),), ((0, "a", 0), (0, "b", 0)))
        result = joint(TURNS, even, "aa")
        self.assertEqual((result.holds, result.steady), (True, False))

    def test_errors_in_their_order(self):
        other = Pair.of_letters("abc", "a")
        with self.assertRaises(Unlike) as held:
            joint(TURNS, other, None)
        self.assertEqual(held.exception.word, "alphabet")
        many, few = with_sets((1, 12, 25), (1, 1, 1)), with_sets((1, 4, 10), (1, 1, 1))
        yes, no = Pair.of_letters("ab", "ab"), Pair.of_letters("ab", "")
        # No error is due if there is no joint.
        self.assertFalse(joint(many, many, "aa"))
        self.assertFalse(joint(yes, ~many, "aa"))
        for first, second in ((many, yes), (no, ~many)):
            with self.assertRaises(TooMany) as held:
                joint(first, second, "aa")
            self.assertEqual(held.exception.word, "set")
        for first, second in ((with_sets((1, 13, 23), (1, 1, 1)), yes), (no, ~with_sets((1, 13, 23), (1, 1, 1)))):
            with self.assertRaises(TooMany) as held:
                joint(first, second, "aa")
            self.assertEqual(held.exception.word, "standing")
        self.assertIs(joint(few, yes, "aa").steady, True)

    def test_too_many_maps(self):
        source = chance(441)
        while True:
            wild = Pair("ab", random_moves(source, 2, 6), ((0, 0),), ((0, "a", 0), (0, "b", 0)))
            try:
                is_steady(wild)
            except TooMany:
                break
        yes, no = Pair.of_letters("ab", "ab"), Pair.of_letters("ab", "")
        with self.assertRaises(TooMany) as held:
            joint(wild, yes, "ab")
        self.assertEqual(held.exception.word, "map")
        # The strongest one is steady: the weakest one is not asked.
        self.assertIs(joint(no, wild, "ab").steady, True)
        even = Pair("ab", counter(2, 2, (0, 1)), ((0, 0),), ((0, "a", 0), (0, "b", 0)))
        with self.assertRaises(TooMany) as held:
            joint(even & wild, wild, "ab")
        self.assertEqual(held.exception.word, "map")

    def test_forty_standings(self):
        source = chance(442)
        for _ in range(3):
            one = Pair("ab", random_moves(source, 2, 40), random_moves(source, 2, 40), tuple(
                (p, a, q) for p in range(40) for a in "ab" for q in range(40) if source.random() < 0.5))
            result = joint(one, one, "aa")
            self.assertTrue(pair_marks(one, result.row)[result.place])
            self.assertFalse(pair_marks(one, result.other)[result.place])


if __name__ == "__main__":
    unittest.main()
