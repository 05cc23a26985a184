"""Glasses ([41]) and the coarsest one ([42])."""

import unittest

from saidhere.errors import BadAlphabet, BadGlass, BadRow
from saidhere.glasses import coarsest, seen_alphabet, seen_row
from saidhere.leastpair import least
from saidhere.pairs import Pair
from saidhere.through import through
from tests.plainly import chance, counter, pair_marks, random_pair_parts, rows
from tests.test_plain import NO_ALPHABETS

NO_GLASSES = ("", "a", "abc", "ai", "aA", "a ", "xy", None, 0, True, ("a", "b"), ["a", "b"], {"a": "b"}, b"ab")


class Seen(unittest.TestCase):
    def test_alphabets(self):
        for alphabet, glass, wanted in (
            ("ab", "aa", "a"), ("ab", "ba", "ab"), ("ab", "hb", "bh"), ("abc", "cac", "ac"), ("h", "a", "a"),
            ("abcdefgh", "hgfedcba", "abcdefgh"), ("abcdefgh", "dddddddd", "d"), ("bdh", "bdh", "bdh"),
        ):
            self.assertEqual(seen_alphabet(alphabet=alphabet, glass=glass), wanted)

    def test_rows(self):
        self.assertEqual(seen_row("abc", "cac", "abcba"), "caccac"[:2] + "cac")
        self.assertEqual(seen_row(alphabet="ab", glass="hb", row=""), "")
        self.assertEqual(seen_row("ab", "ba", "ab" * 100), "ba" * 100)
        source = chance(410)
        for _ in range(50):
            alphabet = source.choice(("a", "bdh", "abcd"))
            glass = "".join(source.choices("abcdefgh", k=len(alphabet)))
            row = "".join(source.choices(alphabet, k=source.randint(0, 20)))
            told = seen_row(alphabet, glass, row)
            self.assertEqual(told, "".join(dict(zip(alphabet, glass))[letter] for letter in row))
            self.assertLessEqual(set(told), set(seen_alphabet(alphabet, glass)))

    def test_errors_in_their_order(self):
        for thing in NO_ALPHABETS:
            for call in (lambda: seen_alphabet(thing, None), lambda: seen_row(thing, None, None)):
                with self.assertRaises(BadAlphabet) as held:
                    call()
                self.assertIs(held.exception.thing, thing)
        for thing in NO_GLASSES:
            for call in (lambda: seen_alphabet("ab", thing), lambda: seen_row("ab", thing, None)):
                with self.assertRaises(BadGlass) as held:
                    call()
                self.assertIs(held.exception.thing, thing)
        for row, at in (("abx", 2), ("c", 0), ("a" * 201, -1), (None, -1), (("a",), -1)):
            with self.assertRaises(BadRow) as held:
                seen_row("ab", "cc", row)
            self.assertEqual(held.exception.at, at)


class Coarsest(unittest.TestCase):
    def test_known(self):
        self.assertEqual(coarsest(Pair.of_letters("abc", "b")), "aba")
        self.assertEqual(coarsest(Pair.of_letters("abc", "")), "aaa")
        self.assertEqual(coarsest(pair=Pair.of_letters("bdh", "bdh")), "bbb")
        self.assertEqual(coarsest(Pair("ab", counter(2, 2, (0, 1)), ((0, 0),), ((0, "a", 0), (0, "b", 0)))), "aa")
        self.assertEqual(coarsest(Pair("ab", counter(2, 2), ((0, 0),), ((0, "a", 0), (0, "b", 0)))), "ab")
        # What is counted behind, too.
        self.assertEqual(coarsest(Pair("abc", ((0, 0, 0),), counter(3, 2, (1,)), ((0, "a", 0), (0, "b", 0), (0, "c", 0)))), "aba")

    def test_by_definition(self):
        source = chance(420)
        seen = set()
        for _ in range(120):
            alphabet = source.choice(("ab", "abc", "bdh", "abcd"))
            pair = Pair(*random_pair_parts(source, alphabet, 2))
            glass = coarsest(pair)
            self.assertEqual(glass, coarsest(least(pair)))
            most = {2: 6, 3: 4, 4: 3}[len(alphabet)]
            for at, letter in enumerate(alphabet):
                alike = [
                    other for other in alphabet
                    if all(
                        pair_marks(pair, row) == pair_marks(pair, row[:k] + other + row[k + 1:])
                        for row in rows(alphabet, most) for k in range(len(row)) if row[k] == letter
                    )
                ]
                self.assertEqual(glass[at], min(alike))
            seen.add(len(set(glass)) < len(alphabet))
        self.assertEqual(seen, {True, False})

    def test_told_exactly_if_no_finer(self):
        source = chance(421)
        seen = set()
        for _ in range(200):
            alphabet = source.choice(("ab", "abc", "abcd"))
            pair = Pair(*random_pair_parts(source, alphabet, 2))
            glass = "".join(source.choices("bcd", k=len(alphabet)))
            finest = coarsest(pair)
            twos = [(x, y) for x in range(len(alphabet)) for y in range(x) if glass[x] == glass[y]]
            wanted = all(finest[x] == finest[y] for x, y in twos)
            self.assertEqual(through(pair, glass).holds, wanted)
            self.assertTrue(through(pair, finest))
            seen.add(wanted)
        self.assertEqual(seen, {True, False})


if __name__ == "__main__":
    unittest.main()
