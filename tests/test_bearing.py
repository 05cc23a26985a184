"""What rows a row over the target can come from ([38])."""

import copy
import types
import unittest

from saidhere.bearing import Bearing, bearing, rows_behind
from saidhere.errors import BadRow
from saidhere.layers import Layer
from tests.plainly import chance, counter, layer_row, random_layer_parts, rows

ONE = ((0,),)
# All letters of four are led to a, but for d, which is led to b.
FOUR = Layer("abcd", "ab", ((0, 0, 0, 0),), ((0, 0, 0, 0),), ((("a",), ("a",), ("a",), ("b",)),))
SAME = Layer.same("ab")
# A place gets b if just one of the letter there and the letter directly before it is b.
CHANGE = Layer("ab", "ab", ((0, 1), (0, 1)), ((0, 0),), ((("a",), ("b",)), (("b",), ("a",))))
# The same with the letter directly behind.
CHANGE_BACK = Layer("ab", "ab", ((0, 0),), ((0, 1), (0, 1)), ((("a", "b"), ("b", "a")),))
# A place gets b if the number of b in the row is odd.
PARITY = Layer("ab", "ab", counter(2, 2, (1,)), counter(2, 2, (1,)), tuple(
    tuple(tuple("ab"[(p + k + q) % 2] for q in range(2)) for k in range(2)) for p in range(2)))


class Bearings(unittest.TestCase):
    def test_by_definition(self):
        source = chance(380)
        seen = set()
        for _ in range(150):
            alphabet, target = source.choice((("ab", "ab"), ("abc", "bd"), ("a", "ab"), ("ab", "abc"), ("bdh", "ace")))
            layer = Layer(*random_layer_parts(source, alphabet, target, 3))
            most = 5 if len(alphabet) < 3 else 4
            led = {}
            for row in rows(alphabet, most):
                led.setdefault(layer_row(layer, row), []).append(row)
            for row in source.sample(rows(target, most), 20 if target != "ab" or most < 5 else 30):
                some = led.get(row, [])
                told = bearing(layer, row)
                self.assertIsInstance(told, Bearing)
                self.assertEqual(told.number, len(some))
                self.assertEqual((told.least, told.greatest), (some[0], some[-1]) if some else (None, None))
                columns = list(zip(*some)) if some else [()] * len(row)
                self.assertEqual(told.sure, tuple(x[0] if len(set(x)) == 1 else None for x in columns))
                self.assertEqual(list(rows_behind(layer, row)), some)
                seen.add(min(len(some), 2))
        self.assertEqual(seen, {0, 1, 2})

    def test_none_one_and_many(self):
        told = bearing(layer=CHANGE, row="abbb")
        self.assertEqual((told.number, told.least, told.greatest, told.sure), (1, "abab", "abab", tuple("abab")))
        told = bearing(PARITY, "abb")
        self.assertEqual((told.number, told.least, told.greatest, told.sure), (0, None, None, (None, None, None)))
        told = bearing(PARITY, "bbb")
        self.assertEqual((told.number, told.least, told.greatest, told.sure), (4, "aab", "bbb", (None, None, None)))
        told = bearing(FOUR, "aba")
        self.assertEqual((told.number, told.least, told.greatest, told.sure), (9, "ada", "cdc", (None, "d", None)))
        self.assertEqual(vars(bearing(FOUR, "")), {"number": 1, "least": "", "greatest": "", "sure": ()})

    def test_very_many_in_long_rows(self):
        row = "a" * 100 + "b" + "a" * 99
        told = bearing(FOUR, row)
        self.assertEqual(told.number, 3 ** 199)
        self.assertEqual((told.least, told.greatest), ("a" * 100 + "d" + "a" * 99, "c" * 100 + "d" + "c" * 99))
        self.assertEqual(told.sure, (None,) * 100 + ("d",) + (None,) * 99)
        some = rows_behind(FOUR, row)
        self.assertEqual([next(some) for _ in range(4)], [told.least[:-1] + x for x in "abc"] + [told.least[:-2] + "ba"])
        self.assertEqual(bearing(PARITY, "b" * 200).number, 2 ** 199)
        self.assertEqual(bearing(PARITY, "b" * 199 + "a").number, 0)

    def test_many_standings(self):
        left, right = counter(2, 40), counter(2, 40, (1,))
        told = tuple(tuple(tuple("ab"[(p * q + k) % 2] for q in range(40)) for k in range(2)) for p in range(40))
        layer = Layer("ab", "ab", left, right, told)
        row = "".join(chance(381).choices("ab", k=200))
        found = bearing(layer, layer(row))
        self.assertLessEqual(found.least, row)
        self.assertLessEqual(row, found.greatest)
        self.assertEqual((layer(found.least), layer(found.greatest)), (layer(row), layer(row)))
        self.assertTrue(all(x is None or x == y for x, y in zip(found.sure, row)))

    def test_standings_to_which_no_row_leads(self):
        # The last standings are met by no row, but would lead to others.
        layer = Layer("a", "ab", ((0,), (0,)), ((0,), (0,)), ((("a", "b"),), (("b", "b"),)))
        self.assertEqual([bearing(layer, row).number for row in ("a", "b", "aa", "ab")], [1, 0, 1, 0])
        self.assertEqual(list(rows_behind(layer, "ab")), [])

    def test_the_numbers_add_up(self):
        source = chance(382)
        for _ in range(30):
            alphabet, target = source.choice((("ab", "ab"), ("abc", "ab"), ("ab", "bdh")))
            layer = Layer(*random_layer_parts(source, alphabet, target, 4))
            for length in range(5):
                some = rows(target, length, length) if length else [""]
                self.assertEqual(sum(bearing(layer, row).number for row in some), len(alphabet) ** length)

    def test_one_by_one(self):
        told = rows_behind(layer=FOUR, row="a" * 200)
        self.assertIsInstance(told, types.GeneratorType)
        self.assertEqual(next(told), "a" * 200)
        self.assertEqual(list(rows_behind(SAME, "abab")), ["abab"])
        self.assertEqual(list(rows_behind(SAME, "")), [""])

    def test_nothing_is_changed(self):
        layer = Layer(*random_layer_parts(chance(383), "ab", "ab", 4))
        before = copy.deepcopy(vars(layer))
        bearing(layer, "abba")
        list(rows_behind(layer, "abba"))
        self.assertEqual(vars(layer), before)

    def test_errors(self):
        # Rows over the target, not over the alphabet.
        for row, at in (("abc", 2), ("d", 0), ("a" * 201, -1), (None, -1), (("a",), -1), (0, -1)):
            with self.assertRaises(BadRow) as held:
                bearing(FOUR, row)
            self.assertEqual(held.exception.at, at)
            told = rows_behind(FOUR, row)
            with self.assertRaises(BadRow) as held:
                next(told)
            self.assertEqual(held.exception.at, at)
        self.assertEqual(bearing(Layer("ab", "h", ((0, 0),), ((0, 0),), ((("h",), ("h",)),)), "hh").number, 4)


if __name__ == "__main__":
    unittest.main()
