"""How often a claim can mark in one row that is let ([30])."""

import copy
import unittest

from saidhere.errors import TooMany, Unlike
from saidhere.mosts import Most, judge_pump, judge_ranks, most
from saidhere.pairs import Pair
from tests.plainly import as_lists, chance, counter, is_tuples, led, pair_marks, random_pair_parts, rows
from tests.test_always import some_pairs, strides, tables, wide

ALL = Pair.of_letters("ab", "ab")
NONE = Pair.of_letters("ab", "")
ONLY_A = Pair.of_letters("ab", "a")
# The letters b behind which no b comes, and the first two letters of a row.
LAST_B = Pair("ab", ((0, 0),), ((0, 1), (1, 1)), ((0, "b", 0),))
FIRST_TWO = Pair("ab", ((1, 1), (2, 2), (2, 2)), ((0, 0),), tuple((p, a, 0) for p in (0, 1) for a in "ab"))


def counting(wish, claim):
    forward, backward = tables(wish, claim)
    return sorted(set(forward) & set(backward))


def inner_strides(wish, claim):
    gaps = set(counting(wish, claim))
    return [(gap, after, marked) for gap, _, after, marked in strides(wish, claim) if gap in gaps and after in gaps]


def ranks_by_definition(wish, claim, number):
    """The ranks, by going on until nothing changes any more; there is a greatest number."""
    ranks = {gap: 0 for gap in counting(wish, claim)}
    steps = inner_strides(wish, claim)
    while True:
        newer = dict(ranks)
        for gap, after, marked in steps:
            newer[gap] = max(newer[gap], ranks[after] + marked)
        if newer == ranks:
            return ranks
        ranks = newer
        assert max(ranks.values()) <= number + 1


def shows(wish, claim, table, number):
    """Whether a table of ranks is right, word for word."""
    ranks = {}
    for gap, rank in table:
        ranks.setdefault(tuple(gap), rank)
    gaps = counting(wish, claim)
    return (
        all(gap in ranks for gap in gaps)
        and all(ranks[gap] >= ranks[after] + marked for gap, after, marked in inner_strides(wish, claim))
        and all(ranks[gap] <= number for gap in gaps if gap[:2] == (0, 0))
    )


def pumps(wish, claim, before, turn, after):
    """Whether three rows are right, word for word."""
    whole = before + turn + after
    if not all(pair_marks(wish, whole)) or not any(pair_marks(claim, whole)[len(before):len(before + turn)]):
        return False

    def gap(ahead, behind):
        left = tuple(led(wish.alphabet, pair.left, ahead) for pair in (wish, claim))
        return left + tuple(led(wish.alphabet, pair.right, behind[::-1]) for pair in (wish, claim))

    return gap(before, turn + after) == gap(before + turn, after)


class MostByDefinition(unittest.TestCase):
    def test_all_short_rows(self):
        seen = set()
        for wish, claim in some_pairs(chance(300), 160):
            length = 6 if len(wish.alphabet) < 3 else 4
            told = most(wish, claim)
            self.assertIsInstance(told, Most)
            self.assertIs(bool(told), told.bounded)
            seen.add(told.bounded)
            numbers = [(sum(pair_marks(claim, row)), row) for row in rows(wish.alphabet, length) if all(pair_marks(wish, row))]
            if told.bounded:
                self.check_bounded(wish, claim, told, numbers, length)
            else:
                self.assertEqual((told.number, told.row, told.ranks), (None, None, None))
                self.assertTrue(pumps(wish, claim, told.before, told.turn, told.after))
                self.assertIs(judge_pump(wish, claim, told.before, told.turn, told.after), True)
                for part in (told.before, told.turn, told.after):
                    self.assertLessEqual(len(part), len(counting(wish, claim)))
                for times in range(5):
                    row = told.before + told.turn * times + told.after
                    self.assertTrue(all(pair_marks(wish, row)))
                    self.assertGreaterEqual(sum(pair_marks(claim, row)), times)
        self.assertEqual(seen, {True, False})

    def check_bounded(self, wish, claim, told, numbers, length):
        self.assertEqual((told.before, told.turn, told.after), (None, None, None))
        self.assertTrue(all(pair_marks(wish, told.row)))
        self.assertEqual(sum(pair_marks(claim, told.row)), told.number)
        self.assertLessEqual(max(numbers)[0], told.number)
        least = [row for number, row in numbers if number == told.number]
        self.assertTrue(told.row == least[0] if least else len(told.row) > length)
        ranks = ranks_by_definition(wish, claim, told.number)
        self.assertEqual(told.ranks, tuple(sorted(ranks.items())))
        self.assertTrue(is_tuples(told.ranks))
        self.assertIs(judge_ranks(wish, claim, told.ranks, told.number), True)
        self.assertIs(judge_ranks(wish, claim, told.ranks, told.number - 1), False)

    def test_edges(self):
        # No row but the empty one is let.
        told = most(NONE, ALL)
        self.assertEqual((told.number, told.row, told.ranks), (0, "", (((0, 0, 0, 0), 0),)))
        # All rows are let.
        told = most(wish=ALL, claim=LAST_B)
        self.assertEqual((told.bounded, told.number, told.row), (True, 1, "b"))
        told = most(ALL, FIRST_TWO)
        self.assertEqual((told.number, told.row), (2, "aa"))
        told = most(ALL, ONLY_A)
        self.assertEqual((told.bounded, told.before, told.turn, told.after), (False, "", "a", ""))
        # Rows of a alone have no b at all.
        self.assertEqual((most(ONLY_A, LAST_B).number, most(ONLY_A, LAST_B).row), (0, ""))

    def test_a_long_least_row(self):
        # Rows of a number of letters that 7 and 5 divide, but for the empty row; marked is the first place.
        wish = Pair("a", ((1,), (1,)), counter(1, 35), ((0, "a", 34),) + tuple((1, "a", q) for q in range(35)))
        claim = Pair("a", ((1,), (1,)), ((0,),), ((0, "a", 0),))
        told = most(wish, claim)
        self.assertEqual((told.number, told.row), (1, "a" * 35))

    def test_nothing_is_changed(self):
        for wish, claim in some_pairs(chance(301), 20):
            before = copy.deepcopy((vars(wish), vars(claim)))
            most(wish, claim)
            self.assertEqual((vars(wish), vars(claim)), before)

    def test_too_many_gaps(self):
        for mirrored in (False, True):
            for holds in (False, True):
                self.assertEqual(most(*wide(2000, holds, mirrored)).number, 25 if holds else 1)
                with self.assertRaises(TooMany) as held:
                    most(*wide(2001, holds, mirrored))
                self.assertEqual(held.exception.word, "gap")

    def test_unlike_alphabets(self):
        other = Pair.of_letters("abc", "a")
        for call in (most, lambda *two: judge_ranks(*two, None, None), lambda *two: judge_pump(*two, None, None, None)):
            with self.assertRaises(Unlike) as held:
                call(ALL, other)
            self.assertEqual(held.exception.word, "alphabet")


class Ranks(unittest.TestCase):
    def test_by_definition(self):
        source = chance(302)
        seen = []
        for wish, claim in some_pairs(source, 60):
            told = most(wish, claim)
            table = told.ranks or tuple((gap, 1) for gap in counting(wish, claim))
            for _ in range(20):
                changed = [list(item) for item in table]
                if source.random() < 0.6:
                    at = source.randrange(len(changed))
                    changed[at][1] = max(0, changed[at][1] + source.choice((-1, 1)))
                if source.random() < 0.2:
                    changed.pop(source.randrange(len(changed)))
                if source.random() < 0.3 and changed:
                    changed.insert(source.randrange(len(changed) + 1), [source.choice(changed)[0], source.randint(0, 3)])
                if source.random() < 0.2:
                    changed.append([(0, 0, len(wish.right) - 1, len(claim.right) - 1), source.randint(0, 3)])
                number = (told.number or 0) + source.randint(0, 1)
                right = shows(wish, claim, changed, number)
                seen.append(right)
                self.assertIs(judge_ranks(wish, claim, tuple(map(tuple, changed)), number), right)
                self.assertIs(judge_ranks(wish, claim, as_lists(changed), number), right)
        self.assertTrue(50 < sum(seen) < len(seen) - 50)

    def test_an_item_out_and_a_rank_changed(self):
        table = most(ALL, FIRST_TWO).ranks
        self.assertEqual(table, (((0, 0, 0, 0), 2), ((0, 1, 0, 0), 1), ((0, 2, 0, 0), 0)))
        for at in range(3):
            self.assertFalse(judge_ranks(ALL, FIRST_TWO, table[:at] + table[at + 1:], 2))
        self.assertTrue(judge_ranks(ALL, FIRST_TWO, (((0, 0, 0, 0), 3),) + table[1:], 3))
        self.assertFalse(judge_ranks(ALL, FIRST_TWO, (((0, 0, 0, 0), 3),) + table[1:], 2))
        self.assertFalse(judge_ranks(ALL, FIRST_TWO, table[:1] + (((0, 1, 0, 0), 2),) + table[2:], 2))
        self.assertFalse(judge_ranks(ALL, FIRST_TWO, table[:2] + (((0, 2, 0, 0), 1),), 2))

    def test_the_first_item_of_a_gap_counts(self):
        table = most(ALL, FIRST_TWO).ranks
        self.assertTrue(judge_ranks(ALL, FIRST_TWO, table + (((0, 1, 0, 0), 9),), 2))
        self.assertFalse(judge_ranks(ALL, FIRST_TWO, (((0, 1, 0, 0), 9),) + table, 2))
        self.assertTrue(judge_ranks(wish=ALL, claim=FIRST_TWO, table=table[::-1] * 2, number=10 ** 40))

    def test_no_table_and_no_number(self):
        table = most(ALL, LAST_B).ranks
        for bad in (
            None, 0, "", {}, ((),), (((0, 0, 0, 0),),), (((0, 0, 0, 0), 0, 0),), (((0, 0, 0), 0),), ((0, 0, 0, 0),),
            (((0, 0, 0, 0), True),), (((0, 0, 0, 0), -1),), (((0, 0, 0, 0), None),), (((0, 0, 0, 2), 1),),
            (((0, 0, 0, True), 1),), (((0, 0, 0, 0), "1"),), (((0, 0, 0, 0), 1.0),),
        ):
            self.assertIs(judge_ranks(ALL, LAST_B, bad, 1), False, bad)
            if isinstance(bad, tuple):
                self.assertIs(judge_ranks(ALL, LAST_B, table + bad, 1), False, bad)
        for number in (-1, True, False, None, "1", 1.0, (1,)):
            self.assertIs(judge_ranks(ALL, LAST_B, table, number), False, number)
        self.assertIs(judge_ranks(ALL, LAST_B, table, 1), True)
        self.assertIs(judge_ranks(ALL, LAST_B, table, 0), False)

    def test_more_gaps_than_may_be_told(self):
        for mirrored in (False, True):
            wish, claim = wide(2001, True, mirrored)
            gaps = counting(wish, claim)
            table = tuple((gap, 26 - max(gap)) for gap in gaps) if not mirrored else tuple((gap, max(gap)) for gap in gaps)
            self.assertIs(judge_ranks(wish, claim, table, 26), shows(wish, claim, table, 26))
            self.assertIs(judge_ranks(wish, claim, table, 26), True)
            self.assertIs(judge_ranks(wish, claim, table[1:], 26), False)


class Pump(unittest.TestCase):
    def test_by_definition(self):
        source = chance(303)
        seen = []
        some = rows("ab", 3)
        for number in range(60):
            wish = Pair(*random_pair_parts(source, "ab", 2)) if number % 2 else ALL
            claim = Pair(*random_pair_parts(source, "ab", 2))
            for _ in range(30):
                three = [source.choice(some) for _ in range(3)]
                right = pumps(wish, claim, *three)
                seen.append(right)
                self.assertIs(judge_pump(wish, claim, *three), right)
        self.assertTrue(50 < sum(seen) < len(seen) - 50)

    def test_edges(self):
        self.assertTrue(judge_pump(ALL, ONLY_A, "", "a", ""))
        self.assertTrue(judge_pump(wish=ALL, claim=ONLY_A, before="b" * 500, turn="ab" * 400, after="b" * 300))
        self.assertFalse(judge_pump(ALL, ONLY_A, "a", "b", "a"))
        self.assertFalse(judge_pump(ALL, ONLY_A, "a", "", "a"))
        # The turn has a marked place, but the gap is not the same.
        self.assertFalse(judge_pump(ALL, FIRST_TWO, "", "a", ""))
        self.assertFalse(judge_pump(ALL, LAST_B, "", "b", ""))
        # What is not let.
        self.assertFalse(judge_pump(ONLY_A, ALL, "", "a", "b"))
        self.assertTrue(judge_pump(ONLY_A, ALL, "", "a", ""))

    def test_no_rows(self):
        for bad in (None, 0, True, "c", "ax", "xa", "axa", ("a",), ["a"], b"a", "A", " "):
            for at in range(3):
                three = ["a", "a", "a"]
                three[at] = bad
                self.assertIs(judge_pump(ALL, ONLY_A, *three), False, bad)


if __name__ == "__main__":
    unittest.main()
