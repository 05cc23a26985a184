"""Marked places of all rows of a length ([48]), and rows by their numbers ([49])."""

import copy
import unittest

from saidhere.census import census, fewest, greatest, shares
from saidhere.errors import BadNumber, BadRow, Beyond, TooLong
from saidhere.leastpair import least
from saidhere.pairs import Pair
from saidhere.pairworks import mirrored
from saidhere.ranked import number_of, row_at
from tests.plainly import chance, counter, pair_marks, random_moves, random_pair_parts, rows

LETTER = Pair.of_letters("ab", "b")
ALL = Pair.of_letters("abcdefgh", "abcdefgh")
# The letters b behind which no b comes.
LAST = Pair("ab", ((0, 0),), ((0, 1), (1, 1)), ((0, "b", 0),))
NO_LENGTHS = (-1, 61, 100, 10 ** 50, True, False, None, "1", (1,), 1.0)


def of_length(alphabet, length):
    return rows(alphabet, length, length) if length else [""]


def some_pairs(source, many):
    for _ in range(many):
        alphabet = source.choice(("a", "ab", "abc", "bdh"))
        yield Pair(*random_pair_parts(source, alphabet, 4))


def comb(n, m):
    told = 1
    for k in range(m):
        told = told * (n - k) // (k + 1)
    return told


class Census(unittest.TestCase):
    def test_by_definition(self):
        for pair in some_pairs(chance(480), 60):
            for n in range(8 if len(pair.alphabet) == 1 else 6 if len(pair.alphabet) == 2 else 4):
                some = of_length(pair.alphabet, n)
                marks = [pair_marks(pair, row) for row in some]
                sums = [sum(told) for told in marks]
                self.assertEqual(census(pair, n), tuple(sums.count(m) for m in range(n + 1)))
                self.assertEqual(shares(pair, n), tuple(sum(told[k] for told in marks) for k in range(n)))
                self.assertEqual(fewest(pair=pair, n=n), (min(sums), some[sums.index(min(sums))]))
                self.assertEqual(greatest(n=n, pair=pair), (max(sums), some[sums.index(max(sums))]))

    def test_known_at_length_0_and_60(self):
        for pair in (LETTER, ALL, LAST):
            self.assertEqual((census(pair, 0), shares(pair, 0)), ((1,), ()))
            self.assertEqual((fewest(pair, 0), greatest(pair, 0)), ((0, ""), (0, "")))
        self.assertEqual(census(pair=LETTER, n=60), tuple(comb(60, m) for m in range(61)))
        self.assertEqual(shares(LETTER, 60), (2 ** 59,) * 60)
        self.assertEqual((fewest(LETTER, 60), greatest(LETTER, 60)), ((0, "a" * 60), (60, "b" * 60)))
        self.assertEqual(census(ALL, 60), (0,) * 60 + (8 ** 60,))
        self.assertEqual(shares(ALL, 60), (8 ** 60,) * 60)
        self.assertEqual((fewest(ALL, 60), greatest(ALL, 60)), ((60, "a" * 60),) * 2)
        self.assertEqual(census(LAST, 60), (1, 2 ** 60 - 1) + (0,) * 59)
        self.assertEqual(shares(LAST, 60), tuple(2 ** k for k in range(60)))
        self.assertEqual((fewest(LAST, 60), greatest(LAST, 60)), ((0, "a" * 60), (1, "a" * 59 + "b")))
        none = ~ALL
        self.assertEqual((census(none, 60), shares(none, 60)), ((8 ** 60,) + (0,) * 60, (0,) * 60))

    def test_they_agree(self):
        source = chance(481)
        for pair in some_pairs(source, 15):
            n = source.randint(0, 60)
            told = census(pair, n)
            self.assertEqual((len(told), sum(told)), (n + 1, len(pair.alphabet) ** n))
            self.assertEqual(sum(m * many for m, many in enumerate(told)), sum(shares(pair, n)))
            self.assertEqual(census(~pair, n), told[::-1])
            self.assertEqual((census(mirrored(pair), n), shares(mirrored(pair), n)), (told, shares(pair, n)[::-1]))
            for find, number in ((fewest, min), (greatest, max)):
                m, row = find(pair, n)
                self.assertEqual((m, sum(pair_marks(pair, row))), (number(m for m in range(n + 1) if told[m]),) * 2)
                self.assertEqual(row, row_at(pair, n, m, 0))

    def test_many_standings(self):
        source = chance(482)
        pair = Pair("abcdefgh", random_moves(source, 8, 40), random_moves(source, 8, 40), tuple(
            (p, a, q) for p in range(40) for a in "abcdefgh" for q in range(40) if source.random() < 0.5))
        told = census(pair, 60)
        self.assertEqual(sum(told), 8 ** 60)
        self.assertEqual(sum(m * many for m, many in enumerate(told)), sum(shares(pair, 60)))
        number = 10 ** 45 + 12345
        row = row_at(pair, 60, 30, number)
        self.assertEqual((sum(pair(row)), number_of(pair, row)), (30, number))

    def test_wrong_lengths(self):
        for call in (census, shares, fewest, greatest):
            for thing in NO_LENGTHS:
                with self.assertRaises(BadNumber) as held:
                    call(LETTER, thing)
                self.assertIs(held.exception.thing, thing)

    def test_nothing_is_changed(self):
        pair = Pair(*random_pair_parts(chance(483), "ab", 4))
        before = copy.deepcopy(vars(pair))
        for call in (census, shares, fewest, greatest):
            call(pair, 9)
        row_at(pair, 9, sum(pair("a" * 9)), 0)
        number_of(pair, "a" * 9)
        self.assertEqual(vars(pair), before)


class Numbered(unittest.TestCase):
    def test_by_definition(self):
        for pair in some_pairs(chance(490), 50):
            for n in range(7 if len(pair.alphabet) == 1 else 5 if len(pair.alphabet) == 2 else 4):
                for m in range(n + 1):
                    some = [row for row in of_length(pair.alphabet, n) if sum(pair_marks(pair, row)) == m]
                    for number, row in enumerate(some):
                        self.assertEqual(row_at(pair=pair, n=n, many=m, number=number), row)
                        self.assertEqual(number_of(row=row, pair=pair), number)
                    for number in (len(some), len(some) + 1, 10 ** 59):
                        with self.assertRaises(Beyond) as held:
                            row_at(pair, n, m, number)
                        self.assertEqual(held.exception.number, len(some))

    def test_first_and_last_number(self):
        whole = comb(60, 30)
        self.assertGreater(whole, 10 ** 17)
        self.assertEqual(row_at(LETTER, 60, 30, 0), "a" * 30 + "b" * 30)
        self.assertEqual(row_at(LETTER, 60, 30, whole - 1), "b" * 30 + "a" * 30)
        self.assertEqual(number_of(LETTER, "b" * 30 + "a" * 30), whole - 1)
        self.assertEqual(number_of(ALL, "h" * 60), 8 ** 60 - 1)
        self.assertEqual(row_at(ALL, 60, 60, 8 ** 60 - 1), "h" * 60)
        self.assertEqual(row_at(ALL, 60, 60, 8 ** 30), "a" * 29 + "b" + "a" * 30)
        self.assertEqual((row_at(LETTER, 0, 0, 0), number_of(LETTER, "")), ("", 0))
        with self.assertRaises(Beyond) as held:
            row_at(LETTER, 60, 30, whole)
        self.assertEqual(held.exception.number, whole)
        with self.assertRaises(Beyond) as held:
            row_at(LAST, 60, 2, 0)
        self.assertEqual(held.exception.number, 0)

    def test_there_and_back(self):
        source = chance(491)
        for pair in some_pairs(source, 20):
            n = source.randint(1, 60)
            told = census(pair, n)
            m = source.choice([m for m in range(n + 1) if told[m]])
            number = source.randrange(told[m])
            row = row_at(pair, n, m, number)
            self.assertEqual((len(row), sum(pair_marks(pair, row)), number_of(pair, row)), (n, m, number))
            self.assertEqual(number_of(least(pair), row), number)
            if number:
                self.assertLess(row_at(pair, n, m, number - 1), row)

    def test_errors_in_their_order(self):
        for thing in NO_LENGTHS:
            for rest in ((0, 0), (None, None)):
                with self.assertRaises(BadNumber) as held:
                    row_at(LETTER, thing, *rest)
                self.assertIs(held.exception.thing, thing)
        for thing in (-1, 6, True, None, "1", 10 ** 40):
            with self.assertRaises(BadNumber) as held:
                row_at(LETTER, 5, thing, None)
            self.assertIs(held.exception.thing, thing)
        for thing in (-1, True, False, None, "0", (0,), 0.0):
            with self.assertRaises(BadNumber) as held:
                row_at(LETTER, 5, 2, thing)
            self.assertIs(held.exception.thing, thing)
        for row, at in (("abx", 2), ("a" * 201, -1), ("a" * 100 + "c", 100), (None, -1), (("a",), -1)):
            with self.assertRaises(BadRow) as held:
                number_of(LETTER, row)
            self.assertEqual(held.exception.at, at)
        for length in (61, 200):
            with self.assertRaises(TooLong) as held:
                number_of(LETTER, "a" * length)
            self.assertEqual(held.exception.number, length)


if __name__ == "__main__":
    unittest.main()
