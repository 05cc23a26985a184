"""What always holds, under a wish ([29])."""

import copy
import unittest

from saidhere.always import Always, always, follows, is_let, judge_always
from saidhere.errors import BadRow, TooMany, Unlike
from saidhere.leastpair import least
from saidhere.pairs import Pair
from tests.plainly import as_lists, chance, counter, is_tuples, pair_marks, placed, random_pair_parts, rows

ALL = Pair.of_letters("ab", "ab")
NONE = Pair.of_letters("ab", "")
ONLY_A = Pair.of_letters("ab", "a")


def readers_of(wish, claim):
    return (wish.left, claim.left, wish.right, claim.right)


def strides(wish, claim):
    """All strides between gaps, word for word: (gap, letter, gap, marked)."""
    told = []
    for p in range(len(wish.left)):
        for o in range(len(claim.left)):
            for k, a in enumerate(wish.alphabet):
                for q2 in range(len(wish.right)):
                    for s2 in range(len(claim.right)):
                        if (p, a, q2) in wish.marked:
                            gap = (p, o, wish.right[q2][k], claim.right[s2][k])
                            after = (wish.left[p][k], claim.left[o][k], q2, s2)
                            told.append((gap, a, after, (o, a, s2) in claim.marked))
    return told


def ends(wish, claim, side):
    """The first gaps (the right side) or the last ones (the left side), by what rows lead to."""
    one, other = getattr(wish, side), getattr(claim, side)
    letters = range(len(wish.alphabet))
    steps = [((p, o), (one[p][k], other[o][k])) for p in range(len(one)) for o in range(len(other)) for k in letters]
    return {(0, 0) + two if side == "right" else two + (0, 0) for two in closure({(0, 0)}, steps)}


def closure(found, steps):
    found = set(found)
    while True:
        more = {after for gap, after in steps if gap in found} - found
        if not more:
            return found
        found |= more


def tables(wish, claim):
    """The two tables by definition."""
    every = strides(wish, claim)
    forward = closure(ends(wish, claim, "right"), [(gap, after) for gap, _, after, _ in every])
    backward = closure(ends(wish, claim, "left"), [(after, gap) for gap, _, after, _ in every])
    return tuple(sorted(forward)), tuple(sorted(backward))


def is_right(wish, claim, forward, backward):
    """Whether two tables are right, word for word."""
    forward, backward = set(forward), set(backward)
    if ends(wish, claim, "right") - forward or ends(wish, claim, "left") - backward:
        return False
    for gap, _, after, marked in strides(wish, claim):
        if (gap in forward and after not in forward) or (after in backward and gap not in backward):
            return False
        if gap in forward and after in backward and not marked:
            return False
    return True


def broken(wish, claim, most):
    """The least placed row that is let, at a place that is not marked; None if no short one is."""
    for row, place in placed(wish.alphabet, most):
        if all(pair_marks(wish, row)) and not pair_marks(claim, row)[place]:
            return row, place
    return None


def some_pairs(source, many):
    """Wishes and claims by chance; some claims hold by their making."""
    for number in range(many):
        alphabet = source.choice(("a", "ab", "ab", "bdh"))
        wish = Pair(*random_pair_parts(source, alphabet, 3))
        claim = Pair(*random_pair_parts(source, alphabet, 3))
        yield wish, claim if number % 2 else wish | claim


class AlwaysByDefinition(unittest.TestCase):
    def test_tables_and_least_rows(self):
        seen = set()
        for wish, claim in some_pairs(chance(290), 220):
            most = 6 if len(wish.alphabet) < 3 else 4
            told = always(wish, claim)
            self.assertIsInstance(told, Always)
            self.assertIs(bool(told), told.holds)
            seen.add(told.holds)
            found = broken(wish, claim, most)
            if told.holds:
                self.assertIsNone(found)
                self.assertEqual((told.forward, told.backward), tables(wish, claim))
                self.assertIs(judge_always(wish, claim, told.forward, told.backward), True)
                self.assertEqual((told.row, told.place), (None, None))
            else:
                self.assertEqual((told.forward, told.backward), (None, None))
                self.assertTrue(found == (told.row, told.place) or (found is None and len(told.row) > most))
                self.assertTrue(all(pair_marks(wish, told.row)))
                self.assertFalse(pair_marks(claim, told.row)[told.place])
        self.assertEqual(seen, {True, False})

    def test_standings_to_which_no_row_leads(self):
        # The last standing of each right reader is met by no row, but leads on to one that is.
        wish = Pair("a", ((0,),), ((0,), (0,)), ((0, "a", 0), (0, "a", 1)))
        claim = Pair("a", ((0,), (1,)), ((0,), (1,), (1,)), ((0, "a", 0),))
        told = always(wish, claim)
        self.assertEqual(told.forward, ((0, 0, 0, 0), (0, 0, 1, 0)))
        self.assertEqual((told.forward, told.backward), tables(wish, claim))
        self.assertTrue(judge_always(wish, claim, told.forward, told.backward))

    def test_wishes_that_let_little_and_all(self):
        # No row but the empty one is let: every claim holds.
        told = always(NONE, NONE)
        self.assertEqual((told.holds, told.forward, told.backward), (True, ((0, 0, 0, 0),), ((0, 0, 0, 0),)))
        # All rows are let: what holds is marked everywhere.
        self.assertEqual((always(ALL, ONLY_A).row, always(ALL, ONLY_A).place), ("b", 0))
        self.assertTrue(always(ALL, ALL))
        self.assertTrue(always(ONLY_A, ONLY_A))
        # The places where no b comes behind, in rows of a alone.
        calm = Pair("ab", ((0, 0),), ((0, 1), (1, 1)), ((0, "a", 0), (0, "b", 0)))
        self.assertTrue(always(ONLY_A, calm))
        told = always(wish=ALL, claim=calm)
        self.assertEqual((told.holds, told.row, told.place), (False, "ab", 0))

    def test_the_place_is_the_first_one_that_is_not_marked(self):
        # The wish lets rows of two letters and more alone that end in bb; the claim marks the first letter.
        even = Pair("ab", counter(2, 2, (0, 1)), ((0, 0),), ((0, "a", 0), (0, "b", 0)))
        told = always(ALL, even)
        self.assertEqual((told.row, told.place), ("aa", 1))

    def test_nothing_is_changed_and_tuples_are_returned(self):
        for wish, claim in some_pairs(chance(291), 20):
            before = copy.deepcopy((vars(wish), vars(claim)))
            told = always(wish, claim)
            self.assertEqual((vars(wish), vars(claim)), before)
            self.assertTrue(is_tuples(told.forward) and is_tuples(told.backward))

    def test_long_least_row(self):
        # The rows that are let have a number of letters that 13 divides; the claim fails if 11 divides it.
        begin = Pair("a", ((1,), (1,)), counter(1, 13), tuple((0, "a", q) for q in range(13) if q == 12) + tuple(
            (1, "a", q) for q in range(13)))
        other = Pair("a", ((1,), (1,)), counter(1, 11), tuple(sorted(
            [(0, "a", q) for q in range(11) if q != 10] + [(1, "a", q) for q in range(11)])))
        told = always(begin, other)
        self.assertEqual((told.row, told.place), ("a" * 143, 0))


def turned_around(pair):
    """The mirrored pair, standing by standing."""
    marked = sorted((q, a, p) for p, a, q in pair.marked)
    return Pair(pair.alphabet, pair.right, pair.left, tuple(marked))


def wide(many, holds, mirrored):
    """A wish and a claim with 1 + 2 * 999 + extra gaps forward, and few backward (mirrored: the other way round).

    Of the 40 right standings of the wish and the 2 of the claim rows lead to 0 alone, but letters lead from all
    of them to it (b: from the claim's 0 alone). So a stride of a from (p, 0, 0, 0) comes to all right items with
    which (p, a, q) is marked; a stride of b to as many as (0, b, q) is.
    """
    left = tuple((min(p + 1, 25), 26) for p in range(26)) + ((26, 26),)
    wish_right = tuple((0, 0) for _ in range(40))
    marked = [(p, "a", q) for p in range(25) for q in range(39 if p == 24 else 40)]
    marked += [(0, "b", q) for q in range(many - 1999)]
    wish = Pair("ab", left, wish_right, tuple(sorted(marked)))
    claim_marked = [(0, a, s) for a in "ab" for s in (0, 1) if holds or a == "b" or s == 1]
    claim = Pair("ab", ((0, 0),), ((0, 0), (0, 1)), tuple(claim_marked))
    return (turned_around(wish), turned_around(claim)) if mirrored else (wish, claim)


class Bounds(unittest.TestCase):
    def test_exactly_2000_and_2001(self):
        for holds in (True, False):
            for mirrored in (False, True):
                told = always(*wide(2000, holds, mirrored))
                self.assertEqual(told.holds, holds)
                if holds:
                    sizes = (len(told.forward), len(told.backward))
                    self.assertEqual(sizes[::-1] if mirrored else sizes, (2000, 27))
                else:
                    self.assertEqual((told.row, told.place), ("a", 0))
                with self.assertRaises(TooMany) as held:
                    always(*wide(2001, holds, mirrored))
                self.assertEqual(held.exception.word, "gap")

    def test_a_judge_knows_no_bound(self):
        for mirrored in (False, True):
            wish, claim = wide(2001, True, mirrored)
            forward, backward = tables(wish, claim)
            self.assertEqual(max(len(forward), len(backward)), 2001)
            self.assertIs(judge_always(wish, claim, forward, backward), True)
            self.assertIs(judge_always(wish, claim, forward[:-1], backward), False)
            self.assertIs(judge_always(wish, claim, forward, backward[1:]), False)
            wish, claim = wide(2001, False, mirrored)
            self.assertIs(judge_always(wish, claim, *tables(wish, claim)), False)


class Judged(unittest.TestCase):
    def test_by_definition(self):
        source = chance(292)
        seen = []
        for wish, claim in some_pairs(source, 60):
            forward, backward = tables(wish, claim)
            sizes = [range(len(reader)) for reader in readers_of(wish, claim)]
            every = [(p, o, q, s) for p in sizes[0] for o in sizes[1] for q in sizes[2] for s in sizes[3]]
            for _ in range(25):
                ahead, behind = list(forward), list(backward)
                for table in (ahead, behind):
                    if source.random() < 0.4 and table:
                        table.pop(source.randrange(len(table)))
                    if source.random() < 0.5:
                        table += source.choices(every, k=source.randint(1, 3))
                    if source.random() < 0.1:
                        table[:] = every
                    source.shuffle(table)
                right = is_right(wish, claim, ahead, behind)
                seen.append(right)
                self.assertIs(judge_always(wish, claim, tuple(ahead), tuple(behind)), right)
                self.assertIs(judge_always(wish, claim, as_lists(ahead), as_lists(behind)), right)
        self.assertTrue(100 < sum(seen) < len(seen) - 100)

    def test_order_and_repetition(self):
        wish, claim = Pair.of_letters("ab", "a"), ~Pair.of_letters("ab", "b")
        told = always(wish, claim)
        self.assertTrue(judge_always(wish, claim, told.forward[::-1] * 2, told.backward * 3))
        self.assertTrue(judge_always(backward=told.backward, forward=list(told.forward), claim=claim, wish=wish))

    def test_wrong_forms(self):
        told = always(ALL, ALL)
        good = told.forward
        for bad in (
            None, 0, True, "", "0000", {}, {(0, 0, 0, 0): 1}, (), ((),), ((0, 0, 0),), ((0, 0, 0, 0, 0),), (0, 0, 0, 0),
            ((0, 0, 0, 1),), ((0, 0, 0, -1),), ((0, 0, 0, True),), ((False, 0, 0, 0),), ((0, 0, 0, "0"),), ("0000",),
            ((0, 0, 0, 0), None), ((0, 0, 0, 0), (0, 1, 0, 0)), ((0, 0, 0, 0), (1, 0, 0, 0)), {(0, 0, 0, 0)}, 1.5,
        ):
            self.assertIs(judge_always(ALL, ALL, bad, good), False, bad)
            self.assertIs(judge_always(ALL, ALL, good, bad), False, bad)

    def test_unlike_alphabets(self):
        for call in (always, lambda *two: judge_always(*two, None, None), follows):
            with self.assertRaises(Unlike) as held:
                call(ALL, Pair.of_letters("abc", "a"))
            self.assertEqual(held.exception.word, "alphabet")


class Follows(unittest.TestCase):
    def test_by_definition(self):
        source = chance(293)
        seen = set()
        for number in range(150):
            alphabet = source.choice(("a", "ab", "bdh"))
            one, other, wish = (Pair(*random_pair_parts(source, alphabet, 2)) for _ in range(3))
            if number % 3 == 0:
                other = one | other
            for limits in (None, wish):
                try:
                    told = follows(one, other, wish=limits)
                except TooMany:
                    continue
                seen.add(told.holds)
                let = [row for row in rows(alphabet, 5) if limits is None or all(pair_marks(limits, row))]
                short = [
                    (row, k) for row in let for k in range(len(row))
                    if pair_marks(one, row)[k] and not pair_marks(other, row)[k]
                ]
                if told.holds:
                    self.assertEqual(short, [])
                    every = Pair.of_letters(alphabet, alphabet) if limits is None else limits
                    self.assertTrue(judge_always(every, ~one | other, told.forward, told.backward))
                else:
                    self.assertTrue(short[:1] == [(told.row, told.place)] or (not short and len(told.row) > 5))
        self.assertEqual(seen, {True, False})

    def test_alike_exactly_if_each_follows(self):
        source = chance(294)
        for _ in range(80):
            one = Pair(*random_pair_parts(source, "ab", 3))
            other = source.choice((Pair(*random_pair_parts(source, "ab", 3)), least(one), ~~one))
            both = follows(one, other).holds and follows(other, one).holds
            self.assertEqual(both, least(one) == least(other))

    def test_errors_in_their_order(self):
        other = Pair.of_letters("abc", "a")
        for one, two, wish in ((ALL, other, other), (ALL, ALL, other), (other, ALL, None)):
            with self.assertRaises(Unlike) as held:
                follows(one, two, wish=wish)
            self.assertEqual(held.exception.word, "alphabet")
        with self.assertRaises(TypeError):
            follows(ALL, ALL, ALL)

    def test_too_many_standings(self):
        one = Pair("a", counter(1, 7), ((0,),), tuple((p, "a", 0) for p in range(6)))
        other = Pair("a", counter(1, 6), ((0,),), tuple((p, "a", 0) for p in range(5)))
        with self.assertRaises(TooMany) as held:
            follows(one, other)
        self.assertEqual(held.exception.word, "standing")


class Let(unittest.TestCase):
    def test_by_definition(self):
        source = chance(295)
        for _ in range(40):
            wish = Pair(*random_pair_parts(source, "ab", 3))
            for row in rows("ab", 5):
                self.assertIs(is_let(wish, row), all(pair_marks(wish, row)))

    def test_edges_and_errors(self):
        self.assertIs(is_let(NONE, ""), True)
        self.assertIs(is_let(row="a", wish=NONE), False)
        self.assertIs(is_let(ONLY_A, "a" * 200), True)
        for row, at in (("abx", 2), ("a" * 201, -1), (None, -1), (("a",), -1), (1, -1)):
            with self.assertRaises(BadRow) as held:
                is_let(ALL, row)
            self.assertEqual(held.exception.at, at)


if __name__ == "__main__":
    unittest.main()
