"""Whether two pairs have alike marks ([13])."""

import copy
import unittest

from saidhere.alike import Likeness, alike, judge_alike
from saidhere.errors import SaidError, Unlike
from saidhere.leastpair import least
from saidhere.pairs import Pair
from tests.plainly import as_lists, chance, counter, is_tuples, led, pair_marks, placed, random_pair_parts, rows

EVEN = Pair("ab", ((1, 1), (0, 0)), ((0, 0),), ((0, "a", 0), (0, "b", 0)))
# The same mark, with more standings and in another order; no row leads to the last one on each side.
EVEN_TOO = Pair(
    "ab",
    ((2, 3), (3, 2), (1, 1), (1, 0), (4, 0)),
    ((1, 0), (0, 0), (0, 2), (3, 3)),
    tuple((p, a, q) for p in (0, 1) for a in "ab" for q in (0, 1, 2)) + ((4, "a", 0),),
)


def met(one, other, side, most):
    """All standings of two readers to which one row leads them, in the order of the least such rows."""
    told = []
    for row in rows(one.alphabet, most):
        letters = row if side == "left" else row[::-1]
        item = tuple(led(one.alphabet, getattr(pair, side), letters) for pair in (one, other))
        if item not in told:
            told.append(item)
    return tuple(told)


def plainly_right(one, other, ahead, behind):
    """Whether two tables are right, word for word."""
    for side, table in (("left", ahead), ("right", behind)):
        if (0, 0) not in table:
            return False
        for p, o in table:
            for k in range(len(one.alphabet)):
                if (getattr(one, side)[p][k], getattr(other, side)[o][k]) not in table:
                    return False
    return all(
        ((p, a, q) in one.marked) == ((o, a, s) in other.marked)
        for p, o in ahead for a in one.alphabet for q, s in behind
    )


class Alike(unittest.TestCase):
    def test_by_definition(self):
        source = chance(13)
        for alphabet, big, most in (("ab", 3, 6), ("ab", 2, 6), ("a", 3, 12), ("bdf", 2, 5)):
            for _ in range(60):
                one = Pair(*random_pair_parts(source, alphabet, big))
                other = source.choice((Pair(*random_pair_parts(source, alphabet, big)), least(one), ~~one, one))
                told = alike(one, other)
                self.assertIsInstance(told, Likeness)
                unlike = [
                    (row, place) for row, place in placed(alphabet, most)
                    if pair_marks(one, row)[place] != pair_marks(other, row)[place]
                ]
                self.assertIs(told.holds, not unlike)
                self.assertIs(bool(told), not unlike)
                if unlike:
                    self.assertEqual((told.row, told.place), unlike[0])
                    self.assertEqual((told.ahead, told.behind), (None, None))
                else:
                    self.assertEqual((told.row, told.place), (None, None))
                    self.assertEqual(told.ahead, met(one, other, "left", most))
                    self.assertEqual(told.behind, met(one, other, "right", most))
                    self.assertTrue(is_tuples((told.ahead, told.behind)))
                    self.assertIs(judge_alike(one, other, told.ahead, told.behind), True)

    def test_told_by_hand(self):
        told = alike(EVEN, EVEN_TOO)
        self.assertTrue(told)
        self.assertEqual(told.ahead, ((0, 0), (1, 2), (1, 3), (0, 1)))
        self.assertEqual(told.behind, ((0, 0), (0, 1)))
        turned = alike(one=EVEN_TOO, other=EVEN)
        self.assertEqual(turned.ahead, tuple((o, p) for p, o in told.ahead))

    def test_the_order_on_the_right(self):
        # The right reader tells the row behind if it has at most two letters.
        states = ["", "a", "b", "aa", "ab", "ba", "bb", "+"]
        moves = tuple(tuple(states.index(x + s if x + s in states else "+") for x in "ab") for s in states)
        pair = Pair("ab", ((0, 0),), moves, ())
        self.assertEqual(alike(pair, pair).behind, tuple((k, k) for k in range(8)))

    def test_pairs_as_they_are_passed(self):
        # One mark, readers of 4 and of 6 standings: the tables tell standings of these.
        one = Pair("a", counter(1, 4), ((0,),), ((0, "a", 0), (2, "a", 0)))
        other = Pair("a", counter(1, 6), ((0,),), ((0, "a", 0), (2, "a", 0), (4, "a", 0)))
        told = alike(one, other)
        self.assertEqual(told.ahead, tuple((k % 4, k % 6) for k in range(12)))
        self.assertEqual(told.behind, ((0, 0),))

    def test_long_rows(self):
        one = Pair("ab", counter(2, 40), ((0, 0),), ((0, "a", 0),))
        other = Pair("ab", counter(2, 39), ((0, 0),), ((0, "a", 0),))
        told = alike(one, other)
        self.assertEqual((told.row, told.place), ("a" * 40, 39))
        both = Pair("ab", counter(2, 40), counter(2, 39), ((39, "b", 37), (39, "b", 38)))
        none = Pair("ab", counter(2, 40), counter(2, 39), ())
        told = alike(none, both)
        self.assertEqual((told.row, told.place), ("a" * 39 + "b" + "a" * 37, 39))
        moves = counter(2, 40)
        marked = tuple((p, a, q) for p in range(40) for a in "ab" for q in range(40))
        told = alike(Pair("ab", moves, moves, marked), Pair("ab", counter(2, 39), counter(2, 37), [
            (p, a, q) for p in range(39) for a in "ab" for q in range(37)
        ]))
        self.assertEqual((len(told.ahead), len(told.behind)), (40 * 39, 40 * 37))
        self.assertEqual(told.ahead, tuple((k % 40, k % 39) for k in range(40 * 39)))
        ends = Pair("ab", ((0, 0),), counter(2, 40), ((0, "a", 0),))
        more = Pair("ab", counter(2, 39), counter(2, 40), tuple((p, "a", 0) for p in range(38)))
        told = alike(ends, more)
        self.assertEqual((told.row, told.place), ("a" * 39, 38))

    def test_the_least_place(self):
        # Differs at both places of all rows aa.
        one = Pair("a", ((0,),), ((0,),), ())
        other = Pair("a", ((1,), (2,), (2,)), ((1,), (2,), (2,)), ((0, "a", 1), (1, "a", 0)))
        self.assertEqual((alike(one, other).row, alike(one, other).place), ("aa", 0))

    def test_unlike_alphabets(self):
        other = Pair("abc", ((0, 0, 0),), ((0, 0, 0),), ())
        for one, two in ((EVEN, other), (other, EVEN)):
            with self.assertRaises(Unlike) as held:
                alike(one, two)
            self.assertEqual(held.exception.word, "alphabet")
            with self.assertRaises(Unlike) as held:
                judge_alike(one, two, None, "no table")
            self.assertEqual(held.exception.word, "alphabet")


class Judging(unittest.TestCase):
    def setUp(self):
        told = alike(EVEN, EVEN_TOO)
        self.ahead, self.behind = told.ahead, told.behind

    def judged(self, ahead, behind):
        told = judge_alike(EVEN, EVEN_TOO, ahead, behind)
        self.assertIsInstance(told, bool)
        return told

    def test_right_tables(self):
        self.assertTrue(self.judged(self.ahead, self.behind))
        self.assertTrue(judge_alike(behind=self.behind, ahead=self.ahead, other=EVEN_TOO, one=EVEN))
        self.assertTrue(self.judged(self.ahead[::-1], self.behind[::-1] * 3))
        passed = as_lists(self.ahead), as_lists(self.behind)
        before = copy.deepcopy(passed)
        self.assertTrue(self.judged(*passed))
        self.assertEqual(passed, before)

    def test_more_items(self):
        # Items of standings to which no row leads do no harm if the conditions hold for them, too.
        self.assertTrue(self.judged(self.ahead, self.behind + ((0, 2),)))
        self.assertFalse(self.judged(self.ahead, self.behind + ((0, 3),)))
        self.assertFalse(self.judged(self.ahead + ((0, 4),), self.behind))
        self.assertFalse(self.judged(self.ahead + ((1, 4),), self.behind))
        self.assertFalse(self.judged(self.ahead + ((0, 2),), self.behind))
        still = Pair("ab", ((0, 0), (1, 1)), ((0, 0), (1, 1)), ((0, "a", 0), (1, "a", 0), (1, "b", 1)))
        letters = Pair.of_letters("ab", "a")
        self.assertTrue(judge_alike(still, letters, ((0, 0), (1, 0)), ((0, 0),)))
        self.assertTrue(judge_alike(still, letters, ((0, 0),), ((0, 0),)))
        self.assertFalse(judge_alike(still, letters, ((0, 0), (1, 0)), ((0, 0), (1, 0))))
        self.assertFalse(judge_alike(still, letters, ((0, 0),), ((0, 0), (1, 0))))

    def test_each_item_is_needed(self):
        for at in range(len(self.ahead)):
            self.assertFalse(self.judged(self.ahead[:at] + self.ahead[at + 1:], self.behind))
        for at in range(len(self.behind)):
            self.assertFalse(self.judged(self.ahead, self.behind[:at] + self.behind[at + 1:]))
        self.assertFalse(self.judged((), self.behind))
        self.assertFalse(self.judged(self.ahead, ()))

    def test_things_of_no_form(self):
        for thing in (None, 0, True, "", "00", {(0, 0)}, {(0, 0): 1}, iter([(0, 0)]), b"", 1.5, EVEN):
            self.assertFalse(self.judged(thing, self.behind))
            self.assertFalse(self.judged(self.ahead, thing))
            self.assertFalse(self.judged(thing, thing))
        for item in (
            (), (0,), (0, 0, 0), (2, 0), (0, 5), (-1, 0), (0, -1), (False, 0), (0, False), (True, 2), ("0", 0), "00",
            None, 0, (None, 0), ((0,), 0), [[0], [0]], (0, 10 ** 59), (0.0, 0), {0: 0}, {0, 1},
        ):
            for table in (self.ahead + (item,), (item,) + self.ahead, list(self.ahead) + [item]):
                self.assertFalse(self.judged(table, self.behind), item)
        for item in ((), (1, 0), (0, 4), (0, True), (False, 0), ([0], 0), "00", None, (0, 0, 0), {0, 1}):
            self.assertFalse(self.judged(self.ahead, self.behind + (item,)), item)

    def test_many_items(self):
        moves = counter(2, 40)
        one = Pair("ab", moves, moves, tuple((p, "a", q) for p in range(40) for q in range(40)))
        whole = tuple((p, o) for p in range(40) for o in range(40))
        self.assertTrue(judge_alike(one, one, whole * 4, whole))
        other = Pair("ab", moves, moves, one.marked[:-1])
        self.assertFalse(judge_alike(one, other, whole, whole))

    def test_by_definition(self):
        source = chance(14)
        seen = set()
        for _ in range(400):
            one = Pair(*random_pair_parts(source, "ab", 2))
            other = source.choice((one, least(one), Pair(*random_pair_parts(source, "ab", 2))))
            tables = []
            for side in ("left", "right"):
                whole = [(p, o) for p in range(len(getattr(one, side))) for o in range(len(getattr(other, side)))]
                reached = list(met(one, other, side, 4))
                tables.append(source.choice((whole, reached, [item for item in whole if source.random() < 0.7])))
            wanted = plainly_right(one, other, *tables)
            self.assertIs(judge_alike(one, other, *tables), wanted)
            seen.add(wanted)
            if wanted:
                self.assertTrue(alike(one, other))
        self.assertEqual(seen, {True, False})

    def test_nothing_is_right_for_unlike_marks(self):
        letters = Pair.of_letters("ab", "a")
        for ahead in (((0, 0),), ((0, 0), (1, 0)), ((1, 0), (0, 0), (0, 0))):
            try:
                self.assertIs(judge_alike(EVEN, letters, ahead, ((0, 0),)), False)
            except SaidError:
                self.fail("a judge raised an error")


if __name__ == "__main__":
    unittest.main()
