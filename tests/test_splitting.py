"""Splits of steady marks, and how they are judged ([23] with [15], [16])."""

import copy
import itertools
import unittest
from unittest import mock

from saidhere.errors import TooMany, Unsayable
from saidhere.leastpair import least
from saidhere.pairs import Pair
from saidhere.pairworks import mirrored
from saidhere.splitting import Split, judge_split, split_of
from saidhere.tense import comings, pasts, tense_sheet
from saidhere.tensein import derive_tense
from saidhere.tensejudge import first_wrong_tense
from saidhere.turnings import is_steady, turning
from tests.plainly import TENSE_FORMS, as_lists, chance, counter, is_tuples, led, map_turns, maps_of_moves, pair_marks, random_pair_parts, random_sheet, rows
from tests.plainly import steady_pair_parts, tense_holds
from tests.test_turnings import EVEN, FIRST, ring_pair

NO_MARK = Pair.of_letters("ab", "")
ONE = ((0, 0),)


def plainly_right(pair, sheet, pieces, most):
    """Whether a split is right for all short rows, by definition."""
    for row in rows(pair.alphabet, most):
        for place, marked in enumerate(pair_marks(pair, row)):
            applied = any(
                row[place] == a and tense_holds(sheet, row, i, place) and tense_holds(sheet, row, j, place) for i, a, j in pieces
            )
            if applied != marked:
                return False
    return True


def awkward_parts(source, alphabet, left, right):
    """The arguments of a steady pair whose least pair has so many standings a side."""
    while True:
        parts = steady_pair_parts(source, alphabet, left, right)
        small = least(Pair(*parts))
        if (len(small.left), len(small.right)) == (left, right):
            return parts


class SplitOf(unittest.TestCase):
    def check(self, pair, most):
        small = least(pair)
        split = split_of(pair)
        self.assertIsInstance(split, Split)
        self.assertEqual(split.alphabet, pair.alphabet)
        self.assertEqual(tense_sheet(pair.alphabet, split.sheet), split.sheet)
        self.assertLessEqual(len(split.sheet), 6000)
        self.assertTrue(is_tuples(split.sheet) and is_tuples(split.pieces))
        # One piece for each standing and letter with a triple, in order.
        wanted = sorted({(p, a) for p, a, q in small.marked})
        self.assertEqual(len(split), len(wanted))
        self.assertEqual([a for i, a, j in split.pieces], [a for p, a in wanted])
        self.assertEqual(tuple(split), split.pieces)
        past, coming = pasts(pair.alphabet, split.sheet), comings(pair.alphabet, split.sheet)
        self.assertTrue(all(past[i] and coming[j] for i, a, j in split.pieces))
        for row in rows(pair.alphabet, most):
            for place in range(len(row)):
                p = led(pair.alphabet, small.left, row[:place])
                q = led(pair.alphabet, small.right, reversed(row[place + 1:]))
                for (standing, letter), (i, a, j) in zip(wanted, split):
                    # Whatever letter the place has.
                    self.assertIs(tense_holds(split.sheet, row, i, place), p == standing)
                    self.assertIs(tense_holds(split.sheet, row, j, place), (standing, letter, q) in small.marked)
        self.assertIs(judge_split(pair, split.sheet, split.pieces), True)
        return split

    def test_ordinary_ones(self):
        split = self.check(FIRST, 5)
        self.assertEqual([a for i, a, j in split], ["a", "b"])
        split = self.check(Pair.of_letters("ab", "b"), 5)
        self.assertEqual(len(split), 1)
        self.check(derive_tense("ab", (("letter", "a"), ("letter", "b"), ("until", 0, 1), ("since", 1, 2)))[-1], 5)
        self.check(Pair.of_letters("abcdefgh", "bdh"), 2)

    def test_no_triples(self):
        split = split_of(NO_MARK)
        self.assertEqual((split.pieces, len(split), list(split), split.alphabet), ((), 0, [], "ab"))
        self.assertEqual(tense_sheet("ab", split.sheet), split.sheet)
        self.assertIs(judge_split(NO_MARK, split.sheet, split.pieces), True)
        self.assertEqual(len(split_of(Pair("ab", ONE, ((1, 0), (0, 1)), ()))), 0)

    def test_small_readers(self):
        source = chance(420)
        for alphabet, most in (("a", 7), ("ab", 5), ("bdh", 3)):
            for left in (1, 2, 3):
                for right in (1, 2, 3):
                    for _ in range(2):
                        self.check(Pair(*steady_pair_parts(source, alphabet, left, right)), most)

    def test_all_readers_of_three_standings(self):
        many = 0
        for moves in itertools.product(itertools.product(range(3), repeat=2), repeat=3):
            if any(map_turns(item) for item in maps_of_moves(moves)):
                continue
            left = Pair("ab", moves, ONE, tuple((p, "ab"[p % 2], 0) for p in range(3)))
            if len(least(left).left) < 3:
                continue
            many += 1
            for pair in (left, mirrored(left)):
                small = least(pair)
                split = split_of(pair)
                self.assertEqual([a for i, a, j in split], [a for p, a in sorted({(p, a) for p, a, q in small.marked})])
                self.assertIs(judge_split(pair, split.sheet, split.pieces), True)
                self.assertTrue(plainly_right(pair, split.sheet, split.pieces, 4))
        self.assertGreater(many, 60)

    def test_by_derivations(self):
        source = chance(421)
        for alphabet in ("ab", "abc", "beg", "ab"):
            pair = Pair(*awkward_parts(source, alphabet, 3, 3))
            small = least(pair)
            split = split_of(pair)
            pairs = derive_tense(alphabet, split.sheet)
            self.assertEqual(first_wrong_tense(alphabet, split.sheet, pairs), len(split.sheet))
            whole = Pair.of_letters(alphabet, "")
            for i, a, j in split:
                whole = whole | (pairs[i] & pairs[j] & Pair.of_letters(alphabet, a))
            self.assertEqual(whole, small)
            # The past parts part the places; each hangs on the left reader alone.
            for number in {i for i, a, j in split}:
                self.assertEqual(len(pairs[number].right), 1)
            for number in {j for i, a, j in split}:
                self.assertEqual(len(pairs[number].left), 1)

    def test_larger_readers(self):
        source = chance(422)
        for alphabet, left, right, most in (("ab", 4, 4, 4), ("ab", 5, 2, 5), ("abc", 2, 4, 3), ("abcd", 4, 1, 3)):
            self.check(Pair(*awkward_parts(source, alphabet, left, right)), most)
        chain = tuple((min(k + 1, 39),) * 2 for k in range(40))
        late = Pair("ab", chain, ONE, ((39, "a", 0), (39, "b", 0)))
        for pair in (late, mirrored(late)):
            split = split_of(pair)
            self.assertIs(judge_split(pair, split.sheet, split.pieces), True)
            self.assertEqual(len(split), 2)

    def test_marks_that_are_not_steady(self):
        source = chance(423)
        sides = []
        for _ in range(200):
            pair = Pair(*random_pair_parts(source, source.choice(("a", "ab", "bdh")), 4))
            turn = turning(pair)
            if turn is None:
                continue
            sides.append((turn.side, turn.count))
            with self.assertRaises(Unsayable) as held:
                split_of(pair)
            told = held.exception
            self.assertEqual((told.side, told.standing, told.turn, told.count), (turn.side, turn.standing, turn.turn, turn.count))
        for wanted in (("left", 2), ("left", 3), ("right", 2)):
            self.assertIn(wanted, sides)

    def test_what_unsayable_bears(self):
        both = Pair("ab", counter(2, 2), counter(2, 3), tuple((p, "b", q) for p in range(2) for q in range(3) if p == q))
        three = Pair("ab", ((0, 1), (2, 1), (3, 2), (1, 3)), ONE, ((1, "b", 0),))
        for pair, wanted in (
            (EVEN, ("left", 0, "a", 2)), (mirrored(EVEN), ("right", 0, "a", 2)), (both, ("left", 0, "a", 2)),
            (three, ("left", 1, "a", 3)), (mirrored(three), ("right", 1, "a", 3)),
        ):
            with self.assertRaises(Unsayable) as held:
                split_of(pair)
            told = held.exception
            self.assertEqual((told.side, told.standing, told.turn, told.count), wanted)

    def test_too_many_maps(self):
        for side in ("left", "right"):
            with self.assertRaises(TooMany) as held:
                split_of(ring_pair(side))
            self.assertEqual(held.exception.word, "map")
        both = ring_pair("right") & EVEN
        with self.assertRaises(Unsayable):
            split_of(pair=both)

    def test_too_many_parts(self):
        # The reader has 298 maps, none of which turns.
        many = ((1, 1, 1), (2, 2, 2), (2, 2, 3), (2, 3, 5), (3, 4, 5), (4, 4, 6), (6, 5, 7), (7, 7, 7))
        pair = Pair("abc", many, ((0, 0, 0),), tuple((p, "abc"[p % 3], 0) for p in range(8)))
        self.assertTrue(is_steady(pair))
        for one in (pair, mirrored(pair)):
            with self.assertRaises(TooMany) as held:
                split_of(one)
            self.assertEqual(held.exception.word, "part")

    def test_the_number_of_parts(self):
        pair = Pair(*awkward_parts(chance(426), "ab", 3, 3))
        many = len(split_of(pair).sheet)
        with mock.patch("saidhere.splitting.MOST_PARTS", many):
            self.assertEqual(len(split_of(pair).sheet), many)
        with mock.patch("saidhere.splitting.MOST_PARTS", many - 1):
            with self.assertRaises(TooMany) as held:
                split_of(pair)
        self.assertEqual(held.exception.word, "part")

    def test_splits_are_short(self):
        # How short they are is not promised; but no part is there that none needs.
        source = chance(427)
        for alphabet in ("ab", "abc"):
            for _ in range(3):
                split = split_of(Pair(*awkward_parts(source, alphabet, 3, 3)))
                self.assertLess(len(split.sheet), {"ab": 90, "abc": 250}[alphabet])
                needed = {number for i, a, j in split for number in (i, j)}
                for number in range(len(split.sheet) - 1, -1, -1):
                    self.assertIn(number, needed)
                    needed |= {thing for thing in split.sheet[number] if isinstance(thing, int)}
                # Letters may be told in two ways, on both sides.
                pairs = derive_tense(alphabet, split.sheet)
                self.assertLess(len(pairs) - len({(x.left, x.right, x.marked) for x in pairs}), 4)
        chain = tuple((min(k + 1, 19),) for k in range(20))
        self.assertLess(len(split_of(Pair("a", chain, ((0,),), ((19, "a", 0),))).sheet), 60)

    def test_splits_are_iterated_over(self):
        split = split_of(FIRST)
        self.assertEqual([(x, y) for x in split for y in split], [(x, y) for x in split.pieces for y in split.pieces])
        self.assertEqual(len(split), len(split.pieces))


class JudgeSplit(unittest.TestCase):
    def test_pieces_moved_about(self):
        source = chance(424)
        for _ in range(12):
            pair = Pair(*awkward_parts(source, source.choice(("ab", "bdh")), source.randint(1, 3), source.randint(1, 3)))
            split = split_of(pair)
            pieces = list(split.pieces)
            source.shuffle(pieces)
            self.assertIs(judge_split(pair, split.sheet, pieces), True)
            self.assertIs(judge_split(pair, split.sheet, pieces + pieces[:1]), True)
            self.assertIs(judge_split(pair, as_lists(split.sheet), as_lists(pieces)), True)
            for at in range(len(pieces)):
                self.assertIs(judge_split(pair, split.sheet, pieces[:at] + pieces[at + 1:]), False)
            # For the least pair, and for others with the same mark.
            self.assertIs(judge_split(least(pair), split.sheet, pieces), True)
            self.assertIs(judge_split(~pair, split.sheet, pieces), False)

    def test_others_by_definition(self):
        source = chance(425)
        told = {True: 0, False: 0}
        for _ in range(250):
            alphabet = source.choice(("a", "ab"))
            sheet = random_sheet(source, alphabet, TENSE_FORMS, source.randint(2, 7))
            past = [k for k, good in enumerate(pasts(alphabet, sheet)) if good]
            coming = [k for k, good in enumerate(comings(alphabet, sheet)) if good]
            if not past or not coming:
                continue
            pieces = tuple((source.choice(past), source.choice(alphabet), source.choice(coming)) for _ in range(source.randint(0, 4)))
            pairs = derive_tense(alphabet, sheet)
            pair = Pair.of_letters(alphabet, "")
            for i, a, j in pieces:
                pair = pair | (pairs[i] & pairs[j] & Pair.of_letters(alphabet, a))
            self.assertIs(judge_split(pair, sheet, pieces), True)
            other = source.choice(pairs)
            right = plainly_right(other, sheet, pieces, 6 if alphabet == "ab" else 9)
            self.assertIs(judge_split(other, sheet, pieces), right)
            told[right] += 1
        self.assertGreater(min(told.values()), 5)

    def test_several_pieces_at_one_place(self):
        pair = Pair.of_letters("ab", "a")
        sheet = (("yes",), ("letter", "a"), ("prev", 0), ("next", 0), ("not", 2), ("not", 3))
        for pieces, right in (
            (((0, "a", 0),), True), (((1, "a", 0),), True), (((1, "a", 1), (0, "a", 0)), True), (((2, "a", 0), (4, "a", 0)), True),
            (((2, "a", 3), (2, "a", 5), (4, "a", 3), (4, "a", 5)), True), (((2, "a", 3), (2, "a", 5), (4, "a", 3)), False),
            (((1, "b", 0), (0, "a", 0)), True), (((0, "b", 0), (0, "a", 0)), False), ((), False), (((1, "b", 1),), False),
        ):
            self.assertIs(judge_split(pair, sheet, pieces), right, pieces)
        self.assertIs(judge_split(NO_MARK, sheet, ()), True)
        self.assertIs(judge_split(NO_MARK, sheet, ((1, "b", 1),)), True)
        self.assertIs(judge_split(NO_MARK, sheet, ((1, "b", 0), (2, "b", 3))), False)

    def test_parts_that_are_not_past_or_not_coming(self):
        pair = Pair.of_letters("ab", "a")
        sheet = (("yes",), ("prev", 0), ("next", 0), ("or", 0, 1), ("or", 0, 2), ("or", 1, 2))
        for pieces, right in (
            (((3, "a", 4),), True), (((0, "a", 0),), True), (((4, "a", 0),), False), (((0, "a", 3),), False), (((5, "a", 0),), False),
            (((0, "a", 5),), False), (((4, "a", 3),), False), (((3, "a", 4), (2, "a", 0)), False), (((3, "a", 4), (0, "a", 1)), False),
        ):
            self.assertIs(judge_split(pair, sheet, pieces), right, pieces)

    def test_marks_that_are_not_steady(self):
        # No split is right for them.
        split = split_of(FIRST)
        self.assertIs(judge_split(EVEN, split.sheet, split.pieces), False)
        self.assertIs(judge_split(EVEN, (("no",),), ()), False)
        self.assertIs(judge_split(ring_pair("left"), split.sheet, split.pieces), False)

    def test_never_too_many(self):
        # The parts have more standings than a pair can.
        sheet = [("yes",)] + [("prev", k) for k in range(60)] + [("next", 0)] + [("next", k) for k in range(61, 130)]
        pair = Pair("a", ((0,),), ((0,),), ((0, "a", 0),))
        sheet += [("or", 0, 60), ("or", 0, 130), ("not", 60), ("not", 130)]
        self.assertIs(judge_split(pair, sheet, ((131, "a", 132),)), True)
        self.assertIs(judge_split(pair, sheet, ((60, "a", 0), (133, "a", 0))), True)
        self.assertIs(judge_split(pair, sheet, ((60, "a", 0), (133, "a", 130))), False)
        self.assertIs(judge_split(pair, sheet, ((60, "a", 134), (133, "a", 134), (0, "a", 130))), True)

    def test_other_forms(self):
        pair = Pair.of_letters("ab", "a")
        good = (("yes",), ("letter", "a"))
        self.assertIs(judge_split(pieces=[[0, "a", 1]], sheet=list(good), pair=pair), True)
        for sheet in (None, 0, (), "yes", {}, (("yes",), ("letter", "c")), (("yes",), ("next", 1)), (("yes",), ("next", True)), (("some", "x", 0),),
                      (("none",),), (("yes",),) * 6001, EVEN, 1.5):
            self.assertIs(judge_split(pair, sheet, ((0, "a", 0),)), False)
            self.assertIs(judge_split(NO_MARK, sheet, ()), False)
        for pieces in (
            None, 0, "a", {}, (None,), ("0a0",), ((0, ("a",), 0),), ((0, None, 0),), ((0, "h", 0),), ((0, "a"),), ((0, "a", 0, 0),), ((2, "a", 0),), ((0, "a", 2),), ((-1, "a", 0),), ((0, "c", 0),),
            ((0, "", 0),), ((0, "ab", 0),), ((True, "a", 0),), ((0, "a", False),), ((0, 0, 0),), (("a", 0, 0),), ((0, "a", 0), None),
            ((0, "a", 0), ()), {(0, "a", 0): 1}, EVEN,
        ):
            self.assertIs(judge_split(pair, good, pieces), False, pieces)
            if isinstance(pieces, tuple):
                # Beside what would be right.
                self.assertIs(judge_split(pair, good, ((0, "a", 0),) + pieces), False, pieces)

    def test_nothing_is_changed(self):
        split = split_of(FIRST)
        passed = as_lists((split.sheet, split.pieces))
        before = copy.deepcopy(passed)
        self.assertIs(judge_split(FIRST, *passed), True)
        self.assertEqual(passed, before)


if __name__ == "__main__":
    unittest.main()
