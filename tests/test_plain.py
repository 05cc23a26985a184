"""Alphabets and rows ([2])."""

import itertools
import unittest

from saidhere.errors import BadAlphabet, BadNumber
from saidhere.plain import each_row, is_alphabet, is_row
from tests.plainly import rows

NO_ALPHABETS = [
    "", "aa", "ba", "i", "abcdefghi", "A", "a b", "abd c", "ax", "abcdefghh", " ", None, 1, True, 0, 1.5, (), [],
    ("a", "b"), ["a"], {"a": 1}, b"ab", "a" * 2000, "abb", "bca",
]


class Alphabets(unittest.TestCase):
    def test_all_alphabets(self):
        letters = "abcdefgh"
        for size in range(1, 9):
            for chosen in itertools.combinations(letters, size):
                self.assertIs(is_alphabet("".join(chosen)), True)
        for word in map("".join, itertools.product("abci", repeat=3)):
            self.assertIs(is_alphabet(word), word == "abc", word)

    def test_single_characters(self):
        for number in range(32, 127):
            self.assertIs(is_alphabet(chr(number)), chr(number) in list("abcdefgh"))

    def test_other_things(self):
        for thing in NO_ALPHABETS:
            self.assertIs(is_alphabet(thing), False, thing)

    def test_by_name(self):
        self.assertIs(is_alphabet(thing="ah"), True)


class Rows(unittest.TestCase):
    def test_rows(self):
        for row in ("", "a", "bba", "a" * 200, "ab" * 100):
            self.assertIs(is_row("ab", row), True)
        self.assertIs(is_row("h", "hhh"), True)

    def test_other_things(self):
        for thing in ("c", "abc", "a" * 201, "A", " ", "a b", None, 0, True, (), ["a"], ("a", "b"), b"a", 1.5):
            self.assertIs(is_row("ab", thing), False, thing)
        self.assertIs(is_row("bd", "c"), False)

    def test_by_name(self):
        self.assertIs(is_row(alphabet="ab", thing="ba"), True)


class EachRow(unittest.TestCase):
    def test_all_rows_from_the_least_on(self):
        for alphabet, most in (("a", 12), ("ab", 7), ("bdh", 4), ("abcdefgh", 3), ("ab", 0), ("ab", 1)):
            told = list(each_row(alphabet, most))
            self.assertEqual(told, rows(alphabet, most))
            self.assertEqual(told, sorted(told, key=lambda row: (len(row), row)))
            self.assertEqual(len(told), sum(len(alphabet) ** n for n in range(most + 1)))

    def test_one_by_one(self):
        told = each_row("abcdefgh", 12)
        first = [next(told) for _ in range(20)]
        self.assertEqual(first, rows("abcdefgh", 2)[:20])

    def test_errors_come_with_the_first_step(self):
        for thing in NO_ALPHABETS:
            told = each_row(thing, 13)
            with self.assertRaises(BadAlphabet) as held:
                next(told)
            self.assertIs(held.exception.thing, thing)
        for most in (-1, 13, True, False, None, "1", 1.0, (), 10 ** 59, [2]):
            told = each_row("ab", most)
            with self.assertRaises(BadNumber) as held:
                next(told)
            self.assertIs(held.exception.thing, most)

    def test_by_name(self):
        self.assertEqual(list(each_row(most=1, alphabet="ab")), ["", "a", "b"])


if __name__ == "__main__":
    unittest.main()
