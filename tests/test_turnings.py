"""Maps, steady sides and marks, and turns ([15], [16])."""

import copy
import unittest

from saidhere.errors import BadNumber, BadSide, TooMany
from saidhere.leastpair import least
from saidhere.pairs import Pair
from saidhere.pairworks import mirrored
from saidhere.turnings import Turn, is_steady, judge_steady, maps, turning
from tests.plainly import as_lists, chance, counter, is_tuples, pair_marks, placed, random_pair_parts, rows

EVEN = Pair("ab", counter(2, 2, (0, 1)), ((0, 0),), ((0, "a", 0), (0, "b", 0)))
FIRST = Pair("ab", ((1, 1), (1, 1)), ((0, 0),), ((0, "a", 0), (0, "b", 0)))
STILL = ((0, 0),)
NO_SIDES = ("", "Left", "lefts", "middle", None, 0, True, ("left",), ["left"], b"left")


def map_of(pair, side, row):
    """The map of a row, by definition."""
    reader = pair.left if side == "left" else pair.right
    told = []
    for standing in range(len(reader)):
        for letter in row if side == "left" else reversed(row):
            standing = reader[standing][pair.alphabet.index(letter)]
        told.append(standing)
    return tuple(told)


def led_back(move, standing):
    """After how many times a map leads a standing back, None if it never does."""
    at = standing
    for times in range(1, len(move) + 1):
        at = move[at]
        if at == standing:
            return times
    return None


def turns(move):
    return any((led_back(move, standing) or 1) > 1 for standing in range(len(move)))


def all_maps(pair, side):
    """All maps with their least rows, in the order of these: from rows that grow on the inner side of the reader."""
    found = {map_of(pair, side, ""): ""}
    level = [""]
    while level:
        grown = sorted(row + a if side == "left" else a + row for row in level for a in pair.alphabet)
        level = []
        for row in grown:
            move = map_of(pair, side, row)
            if move not in found:
                found[move] = row
                level.append(row)
    return found


def plain_turn(pair):
    """The turn of a least pair up to the outer row, by definition."""
    for side in ("left", "right"):
        for move, row in all_maps(pair, side).items():
            if turns(move):
                standing = [s for s in range(len(move)) if (led_back(move, s) or 1) > 1][0]
                outer = [w for w in rows(pair.alphabet, 5) if map_of(pair, side, w)[0] == standing][0]
                return side, row, standing, led_back(move, standing), outer
    return None


def sign(pair, told, row, place, times):
    side, turn, outer = told
    if side == "left":
        return pair_marks(pair, outer + turn * times + row)[len(outer) + len(turn) * times + place]
    return pair_marks(pair, row + turn * times + outer)[place]


class Maps(unittest.TestCase):
    def test_by_definition(self):
        source = chance(320)
        for _ in range(60):
            pair = Pair(*random_pair_parts(source, source.choice(("a", "ab", "bdh")), 3))
            for side in ("left", "right"):
                told = maps(pair, side)
                self.assertEqual(told, tuple(all_maps(pair, side)))
                self.assertTrue(is_tuples(told))
                for row in rows(pair.alphabet, 4):
                    self.assertIn(map_of(pair, side, row), told)

    def test_order(self):
        # The rows a, b, ab, ba have these maps; the rows are meant as they are written, on both sides.
        reader = ((1, 2, 0), (1, 1, 1), (2, 2, 2))
        pair = Pair("abc", reader, reader, ())
        self.assertEqual(maps(pair, "left"), ((0, 1, 2), (1, 1, 2), (2, 1, 2)))
        reader = ((1, 2), (1, 3), (0, 2), (3, 3))
        pair = Pair("ab", reader, reader, ())
        for side in ("left", "right"):
            leasts = [min((w for w in rows("ab", 6) if map_of(pair, side, w) == m), key=lambda w: (len(w), w)) for m in maps(pair, side)]
            self.assertEqual(leasts, sorted(leasts, key=lambda w: (len(w), w)))

    def test_as_passed(self):
        pair = Pair("a", ((1,), (0,), (2,)), ((0,),), ())
        self.assertEqual(maps(side="left", pair=pair), ((0, 1, 2), (1, 0, 2)))
        self.assertEqual(maps(pair, "right"), ((0,),))

    def test_three_hundred(self):
        # Rings of 12 and 25 (13 and 23) standings, stepped by one letter: 300 (299) maps. A tail ahead adds one each.
        for one, other, tail, many in ((12, 25, 0, 300), (13, 23, 0, 299), (13, 23, 1, 300), (12, 25, 1, 301)):
            ring = [(k + 1) % one for k in range(one)] + [one + (k + 1) % other for k in range(other)]
            ring += [one + other + k + 1 if k + 1 < tail else 0 for k in range(tail)]
            moves = tuple((k,) for k in ring)
            for side, pair in (("left", Pair("a", moves, ((0,),), ())), ("right", Pair("a", ((0,),), moves, ()))):
                if many == 301:
                    with self.assertRaises(TooMany) as held:
                        maps(pair, side)
                    self.assertEqual(held.exception.word, "map")
                else:
                    self.assertEqual(len(maps(pair, side)), many)

    def test_wrong_sides(self):
        for side in NO_SIDES:
            with self.assertRaises(BadSide) as held:
                maps(EVEN, side)
            self.assertIs(held.exception.thing, side)
            with self.assertRaises(BadSide):
                judge_steady(EVEN, side, None)


class JudgeSteady(unittest.TestCase):
    def test_tables_that_are_told(self):
        source = chance(321)
        good = 0
        for _ in range(80):
            pair = Pair(*random_pair_parts(source, source.choice(("a", "ab", "abc")), 3))
            for side in ("left", "right"):
                told = list(maps(pair, side))
                steady = not any(turns(move) for move in told)
                good += steady
                source.shuffle(told)
                self.assertIs(judge_steady(pair, side, told + told[:2]), steady)
                self.assertIs(judge_steady(pair, side, as_lists(told)), steady)
                for at in range(len(told)):
                    # No map can be spared: each is reached from the empty row.
                    self.assertIs(judge_steady(pair, side, told[:at] + told[at + 1:]), False)
        self.assertGreater(good, 20)

    def test_more_than_needed(self):
        pair = Pair("a", ((0,), (1,)), ((0,),), ())
        self.assertTrue(judge_steady(pair, "left", ((0, 1), (0, 0))))
        self.assertTrue(judge_steady(pair, "left", ((1, 1), (0, 1), (0, 0))))
        self.assertFalse(judge_steady(pair, "left", ((0, 1), (1, 0))))
        # The map that is more leads to another one, which is not there.
        ahead = Pair("a", ((1,), (1,)), ((0,),), ())
        self.assertTrue(judge_steady(ahead, "left", ((0, 1), (1, 1))))
        self.assertTrue(judge_steady(ahead, "left", ((0, 1), (1, 1), (1, 1))))
        self.assertFalse(judge_steady(ahead, "left", ((1, 1),)))
        three = Pair("a", ((1,), (2,), (2,)), ((0,),), ())
        self.assertTrue(judge_steady(three, "left", ((0, 1, 2), (1, 2, 2), (2, 2, 2))))
        self.assertFalse(judge_steady(three, "left", ((0, 1, 2), (1, 2, 2), (2, 2, 2), (0, 0, 0))))
        self.assertTrue(judge_steady(three, "left", ((0, 1, 2), (1, 2, 2), (2, 2, 2), (0, 0, 0), (1, 1, 1))))

    def test_other_forms(self):
        pair = Pair("a", ((0,), (1,)), ((0,),), ())
        passed = [[0, 1]]
        before = copy.deepcopy(passed)
        self.assertIs(judge_steady(pair, "left", passed), True)
        self.assertEqual(passed, before)
        for table in (
            None, 0, "01", (), {}, {(0, 1): 1}, (0, 1), ((0,),), ((0, 1, 1),), ((0, 2),), ((0, -1),), ((0, True),), ((False, 1),),
            ("01",), ((0, 1), None), ((0, 1), ()), ((0, 1), "01"), ((0, 1.0),), ((0, 1), ((0, 1),)), EVEN,
        ):
            self.assertIs(judge_steady(pair, "left", table), False, table)

    def test_never_too_many(self):
        moves = tuple((k,) for k in [(k + 1) % 12 for k in range(12)] + [12 + (k + 1) % 25 for k in range(25)] + [0])
        pair = Pair("a", moves, ((0,),), ())
        self.assertIs(judge_steady(pair, "left", (tuple(range(38)),)), False)
        self.assertIs(judge_steady(pair=pair, side="right", table=((0,),)), True)


class Steady(unittest.TestCase):
    def test_ordinary_ones(self):
        self.assertIs(is_steady(FIRST), True)
        self.assertIsNone(turning(FIRST))
        self.assertIs(is_steady(EVEN), False)
        # As passed its left side turns, but its mark is that of a letter.
        turned = Pair("ab", ((1, 0), (0, 1)), STILL, ((0, "a", 0), (1, "a", 0)))
        self.assertEqual(maps(turned, "left"), ((0, 1), (1, 0)))
        self.assertIs(is_steady(turned), True)
        self.assertIsNone(turning(turned))

    def test_a_turn(self):
        turn = turning(pair=EVEN)
        self.assertIsInstance(turn, Turn)
        told = (turn.side, turn.turn, turn.standing, turn.count, turn.outer, turn.row, turn.place, turn.signs)
        self.assertEqual(told, ("left", "a", 0, 2, "", "a", 0, (True, False)))
        turn = turning(mirrored(EVEN))
        told = (turn.side, turn.turn, turn.standing, turn.count, turn.outer, turn.row, turn.place, turn.signs)
        self.assertEqual(told, ("right", "a", 0, 2, "", "a", 0, (True, False)))
        self.assertEqual(turn.shown(3), ("aaaa", 0))

    def test_by_definition(self):
        source = chance(322)
        sides = []
        for _ in range(300):
            alphabet = source.choice(("a", "ab", "bdh"))
            pair = Pair(*random_pair_parts(source, alphabet, 4))
            small = least(pair)
            wanted = plain_turn(small)
            turn = turning(pair)
            self.assertIs(is_steady(pair), wanted is None)
            if wanted is None:
                self.assertIsNone(turn)
                continue
            sides.append((turn.side, turn.count))
            self.assertEqual((turn.side, turn.turn, turn.standing, turn.count, turn.outer), wanted)
            way = (turn.side, turn.turn, turn.outer)
            for row, place in placed(alphabet, 5):
                signs = tuple(sign(small, way, row, place, times) for times in range(turn.count))
                if len(set(signs)) > 1:
                    self.assertEqual((turn.row, turn.place, turn.signs), (row, place, signs))
                    break
            else:
                self.fail("the placed row is too long")
            for times in range(12):
                row, place = turn.shown(times)
                self.assertIs(pair_marks(pair, row)[place], turn.signs[times % turn.count])
        for wanted in (("left", 2), ("left", 3), ("right", 2), ("right", 3)):
            self.assertIn(wanted, sides)

    def test_counts(self):
        for many in (2, 3, 4, 7, 40):
            marked = tuple((p, "a", 0) for p in range(many - 1))
            left = Pair("a", counter(1, many), ((0,),), marked)
            turn = turning(left)
            self.assertEqual((turn.side, turn.turn, turn.standing, turn.count), ("left", "a", 0, many))
            self.assertEqual((turn.outer, turn.row, turn.place), ("", "a", 0))
            self.assertEqual(turn.signs, (True,) * (many - 1) + (False,))
            turn = turning(mirrored(left))
            self.assertEqual((turn.side, turn.count, turn.signs), ("right", many, (True,) * (many - 1) + (False,)))
            self.assertTrue(is_tuples(turn.signs))

    def test_both_sides_turn(self):
        pair = Pair("ab", counter(2, 2), counter(2, 3), tuple((p, "b", q) for p in range(2) for q in range(3) if p == q))
        turn = turning(pair)
        self.assertEqual((turn.side, turn.count), ("left", 2))

    def test_an_outer_row(self):
        # Behind the first b the letters a are counted modulo 2.
        pair = Pair("ab", ((0, 1), (2, 1), (1, 2)), ((0, 0),), ((1, "b", 0),))
        turn = turning(pair)
        self.assertEqual((turn.side, turn.turn, turn.standing, turn.count, turn.outer), ("left", "a", 1, 2, "b"))
        self.assertEqual((turn.row, turn.place, turn.signs), ("b", 0, (True, False)))
        self.assertEqual(turn.shown(2), ("baab", 3))
        turn = turning(mirrored(pair))
        self.assertEqual((turn.side, turn.outer, turn.shown(2)), ("right", "b", ("baab", 0)))

    def test_shown(self):
        for pair in (EVEN, mirrored(EVEN)):
            turn = turning(pair)
            self.assertEqual(turn.shown(0), ("a", 0))
            self.assertEqual(turn.shown(times=1), ("aa", 1 if turn.side == "left" else 0))
            self.assertEqual(turn.shown(40), ("a" * 41, 40 if turn.side == "left" else 0))
            for times in (-1, 41, True, False, None, "1", (1,), 1.0):
                with self.assertRaises(BadNumber) as held:
                    turn.shown(times)
                self.assertIs(held.exception.thing, times)


def ring_pair(side):
    """A least pair of 7 standings with more than 300 maps on this side."""
    # A swap and a ring of seven standings give all their 5040 permutations.
    swap = (1, 0, 2, 3, 4, 5, 6)
    ring = tuple((k + 1) % 7 for k in range(7))
    moves = tuple(zip(swap, ring))
    pair = Pair("ab", moves, STILL, ((0, "a", 0),))
    return pair if side == "left" else mirrored(pair)


class TooManyMaps(unittest.TestCase):
    def test_left(self):
        pair = ring_pair("left")
        self.assertEqual(len(least(pair).left), 7)
        for call in (is_steady, turning):
            with self.assertRaises(TooMany) as held:
                call(pair)
            self.assertEqual(held.exception.word, "map")

    def test_right(self):
        pair = ring_pair("right")
        for call in (is_steady, turning):
            with self.assertRaises(TooMany) as held:
                call(pair)
            self.assertEqual(held.exception.word, "map")

    def test_the_right_side_is_not_asked_if_the_left_one_turns(self):
        pair = ring_pair("right") & Pair("ab", counter(2, 2, (0, 1)), STILL, ((0, "a", 0),))
        with self.assertRaises(TooMany):
            maps(pair, "right")
        self.assertIs(is_steady(pair), False)
        self.assertEqual(turning(pair).side, "left")

    def test_the_left_side_is_asked_whole(self):
        # A turn of the left side comes early, but it has too many maps.
        pair = ring_pair("left")
        self.assertTrue(turns(map_of(pair, "left", "a")))
        with self.assertRaises(TooMany):
            is_steady(pair)


if __name__ == "__main__":
    unittest.main()
