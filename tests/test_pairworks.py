"""The mirrored pair ([14]) and the marked placed rows of a pair."""

import types
import unittest

from saidhere.errors import BadNumber
from saidhere.leastpair import least
from saidhere.pairs import Pair
from saidhere.pairworks import marked_rows, mirrored
from tests.plainly import chance, counter, pair_marks, placed, random_pair_parts, rows

EVEN = Pair("ab", counter(2, 2, (0, 1)), ((0, 0),), ((0, "a", 0), (0, "b", 0)))


class Mirrored(unittest.TestCase):
    def test_by_definition(self):
        source = chance(310)
        for _ in range(60):
            pair = Pair(*random_pair_parts(source, source.choice(("a", "ab", "bdh")), 4))
            turned = mirrored(pair)
            self.assertEqual(turned.alphabet, pair.alphabet)
            self.assertEqual(least(turned), turned)
            for row in rows(pair.alphabet, 5):
                self.assertEqual(pair_marks(turned, row), pair_marks(pair, row[::-1])[::-1])
            self.assertEqual(mirrored(turned), least(pair))

    def test_forty_standings(self):
        long = Pair("a", counter(1, 40), counter(1, 39), tuple((p, "a", q) for p in range(40) for q in range(39) if p == q))
        turned = mirrored(pair=long)
        self.assertEqual((len(turned.left), len(turned.right)), (39, 40))
        self.assertEqual(mirrored(turned), least(long))

    def test_not_least_ones(self):
        pair = Pair("ab", ((1, 0), (0, 1), (2, 2)), ((0, 0),), ((0, "a", 0), (1, "a", 0)))
        self.assertEqual(mirrored(pair), Pair.of_letters("ab", "a"))
        self.assertEqual(pair.left, ((1, 0), (0, 1), (2, 2)))


class MarkedRows(unittest.TestCase):
    def test_by_definition(self):
        source = chance(311)
        for _ in range(25):
            pair = Pair(*random_pair_parts(source, source.choice(("a", "ab", "bdh")), 3))
            for most in range(5):
                wanted = [(row, place) for row, place in placed(pair.alphabet, most) if pair_marks(pair, row)[place]]
                self.assertEqual(list(marked_rows(pair, most)), wanted)

    def test_order_and_kind(self):
        told = marked_rows(most=3, pair=EVEN)
        self.assertIsInstance(told, types.GeneratorType)
        self.assertEqual([next(told) for _ in range(8)], [
            ("a", 0), ("b", 0), ("aa", 0), ("ab", 0), ("ba", 0), ("bb", 0), ("aaa", 0), ("aaa", 2),
        ])
        self.assertIsInstance(next(told), tuple)

    def test_edges(self):
        self.assertEqual(list(marked_rows(EVEN, 0)), [])
        self.assertEqual(len(list(marked_rows(Pair.of_letters("a", "a"), 12))), 78)
        self.assertEqual(next(marked_rows(EVEN, 12)), ("a", 0))
        self.assertEqual(list(marked_rows(Pair.of_letters("ab", ""), 5)), [])

    def test_wrong_numbers(self):
        for most in (-1, 13, 100, True, False, None, "1", (1,), 1.0):
            told = marked_rows(EVEN, most)
            with self.assertRaises(BadNumber) as held:
                next(told)
            self.assertIs(held.exception.thing, most)


if __name__ == "__main__":
    unittest.main()
