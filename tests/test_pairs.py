"""Pairs of readers ([6], [7], [14])."""

import copy
import unittest

from saidhere.alike import alike
from saidhere.errors import BadAlphabet, BadLetters, BadMarked, BadPlace, BadReader, BadRow, TooMany, Unlike
from saidhere.leastpair import least
from saidhere.pairs import Pair
from tests.plainly import as_lists, chance, counter, is_tuples, marked_of, pair_marks, placed, random_pair_parts
from tests.plainly import rows, table
from tests.test_plain import NO_ALPHABETS

EVEN = ("ab", ((1, 0), (0, 1)), ((0, 0),), ((0, "a", 0), (0, "b", 0)))
WIDE = ("ab", ((1, 0), (1, 1)), ((0, 1), (1, 0)), ((0, "a", 1), (0, "b", 0), (1, "a", 0), (1, "b", 1)))


def parts(pair):
    return pair.alphabet, pair.left, pair.right, pair.marked


class Making(unittest.TestCase):
    def test_attributes(self):
        pair = Pair(*WIDE)
        self.assertEqual(parts(pair), WIDE)
        self.assertEqual(parts(Pair("h", ((0,),), ((0,),), ())), ("h", ((0,),), ((0,),), ()))

    def test_by_names(self):
        alphabet, left, right, marked = WIDE
        self.assertEqual(Pair(marked=marked, right=right, left=left, alphabet=alphabet), Pair(*WIDE))

    def test_lists_are_kept_as_tuples(self):
        passed = [WIDE[0]] + [as_lists(thing) for thing in WIDE[1:]]
        before = copy.deepcopy(passed)
        pair = Pair(*passed)
        self.assertEqual(passed, before)
        self.assertEqual(parts(pair), WIDE)
        self.assertTrue(all(is_tuples(thing) for thing in parts(pair)))
        passed[1][0][0] = 0
        passed[2].append([0, 0])
        passed[3][0][1] = "b"
        passed[3].clear()
        self.assertEqual(parts(pair), WIDE)
        self.assertEqual(pair("abba"), Pair(*WIDE)("abba"))

    def test_sizes_of_readers(self):
        for many in (1, 2, 39, 40):
            moves = counter(2, many)
            for pair in (Pair("ab", moves, ((0, 0),), ()), Pair("ab", ((0, 0),), moves, ())):
                self.assertEqual(max(len(pair.left), len(pair.right)), many)
        one = ((0, 0),)
        for moves in (counter(2, 41), counter(2, 400), (), [], None, "ab", 0, True, {0: (0, 0)}, "", iter([(0, 0)])):
            with self.assertRaises(BadReader) as held:
                Pair("ab", moves, "wrong", None)
            self.assertEqual((held.exception.side, held.exception.number), ("left", -1))
            with self.assertRaises(BadReader) as held:
                Pair("ab", one, moves, None)
            self.assertEqual((held.exception.side, held.exception.number), ("right", -1))

    def test_wrong_moves(self):
        good = (0, 1)
        for move in (
            (), (0,), (0, 0, 0), (0, 3), (-1, 0), (0, True), (False, 0), ("0", 0), (None, 0), (0, 1.0), (0, (1,)),
            "ab", "01", None, 0, True, {0: 0, 1: 1}, (0, 10 ** 59), [0, -3],
        ):
            for at in range(3):
                moves = [good, good, good]
                moves[at] = move
                with self.assertRaises(BadReader) as held:
                    Pair("ab", moves, (), 0)
                self.assertEqual((held.exception.side, held.exception.number), ("left", at))
                with self.assertRaises(BadReader) as held:
                    Pair("ab", (good, good), tuple(moves), 0)
                self.assertEqual((held.exception.side, held.exception.number), ("right", at))
        with self.assertRaises(BadReader) as held:
            Pair("ab", (good, good, (0, 4), "x"), (), ())
        self.assertEqual(held.exception.number, 2)

    def test_wrong_triples(self):
        left, right = counter(2, 3), counter(2, 2)
        first = (0, "b", 1)
        for triple in (
            (), (1, "a"), (1, "a", 0, 0), (3, "a", 0), (-1, "a", 0), (1, "c", 0), (1, "", 0), (1, "ab", 0), (1, 0, 0),
            (1, "a", 2), (1, "a", -1), (True, "a", 0), (1, "a", True), (1, "a", False), ("1", "a", 0), (1, ["a"], 0),
            (1, None, 0), (1, "a", None), "1a0", None, 0, {1: "a"}, (1.0, "a", 0), (1, "a", 10 ** 59),
            (0, "b", 1), (0, "b", 0), (0, "a", 1), [0, "b", 1],
        ):
            with self.assertRaises(BadMarked) as held:
                Pair("ab", left, right, (first, triple, (2, "b", 1), first))
            self.assertEqual(held.exception.number, 1, triple)
        for marked in (None, "", "a", 0, True, {first}, {first: 1}, iter([first])):
            with self.assertRaises(BadMarked) as held:
                Pair("ab", left, right, marked)
            self.assertEqual(held.exception.number, -1)
        with self.assertRaises(BadMarked) as held:
            Pair("ab", left, right, ((0, "a", 0), (1, "a", 0), (0, "b", 0), (9, "b", 0)))
        self.assertEqual(held.exception.number, 2)

    def test_all_triples(self):
        whole = tuple((p, a, q) for p in range(40) for a in "abcdefgh" for q in range(40))
        pair = Pair("abcdefgh", counter(8, 40), counter(8, 40), whole)
        self.assertEqual(pair.marked, whole)
        with self.assertRaises(BadMarked) as held:
            Pair("abcdefgh", counter(8, 40), counter(8, 40), whole + ((39, "h", 39),))
        self.assertEqual(held.exception.number, 12800)

    def test_the_alphabet_goes_ahead(self):
        for thing in NO_ALPHABETS:
            with self.assertRaises(BadAlphabet) as held:
                Pair(thing, None, (), "x")
            self.assertIs(held.exception.thing, thing)


class Reading(unittest.TestCase):
    def test_told_by_hand(self):
        pair = Pair(*EVEN)
        self.assertEqual(pair(""), ())
        self.assertEqual(pair("aabab"), (True, False, True, True, False))
        self.assertEqual(pair(row="a"), (True,))
        for worth in pair("ab"):
            self.assertIsInstance(worth, bool)

    def test_the_letter_belongs_to_neither_side(self):
        pair = Pair("ab", ((1, 0), (1, 1)), ((0, 1), (1, 1)), ((0, "a", 0),))
        self.assertEqual(pair("aaa"), (True, False, False))
        self.assertEqual(pair("aba"), (False, False, False))
        self.assertEqual(pair("ba"), (False, True))

    def test_by_definition(self):
        source = chance(6)
        for alphabet in ("ab", "a", "ch", "abc"):
            for _ in range(15):
                pair = Pair(*random_pair_parts(source, alphabet, 4))
                for row in rows(alphabet, 5):
                    wanted = pair_marks(pair, row)
                    self.assertEqual(pair(row), wanted)
                    for place in range(len(row)):
                        self.assertIs((row, place) in pair, wanted[place])
                        self.assertIs([row, place] in pair, wanted[place])

    def test_long_rows(self):
        pair = Pair(*EVEN)
        self.assertEqual(pair("a" * 200), (True, False) * 100)
        self.assertTrue(("a" * 200, 198) in pair)

    def test_wrong_rows(self):
        pair = Pair(*EVEN)
        for row, at in (
            ("a" * 201, -1), ("c" * 201, -1), (None, -1), (("a",), -1), (["a"], -1), (0, -1), (b"a", -1), ("c", 0),
            ("abcabd", 2), ("ab ", 2), ("a" * 199 + "c", 199), ("A", 0), (True, -1),
        ):
            with self.assertRaises(BadRow) as held:
                pair(row)
            self.assertEqual(held.exception.at, at)
            with self.assertRaises(BadRow) as held:
                (row, "no place") in pair
            self.assertEqual(held.exception.at, at)

    def test_wrong_places(self):
        pair = Pair(*EVEN)
        for place in (-1, 2, True, False, None, "0", 1.0, (0,), [0], 10 ** 59, -(10 ** 59)):
            with self.assertRaises(BadPlace) as held:
                ("ab", place) in pair
            self.assertIs(held.exception.thing, place)
        with self.assertRaises(BadPlace):
            ("", 0) in pair


class Equality(unittest.TestCase):
    def test_all_attributes(self):
        pair = Pair(*WIDE)
        self.assertTrue(pair == Pair(*WIDE))
        self.assertFalse(pair != Pair(*WIDE))
        others = (
            ("ac", WIDE[1], WIDE[2], ((0, "a", 1), (1, "a", 0))),
            ("ab", ((1, 0), (1, 0)), WIDE[2], WIDE[3]),
            ("ab", WIDE[1], ((0, 1), (1, 1)), WIDE[3]),
            ("ab", WIDE[1], WIDE[2], WIDE[3][:-1]),
        )
        for other in others:
            self.assertFalse(pair == Pair(*other))
            self.assertTrue(pair != Pair(*other))
        one = Pair("ab", ((0, 0),), ((0, 0),), ())
        for alphabet in ("ac", "bc"):
            self.assertFalse(one == Pair(alphabet, ((0, 0),), ((0, 0),), ()))

    def test_alike_marks_are_not_enough(self):
        more = Pair("ab", ((0, 0), (1, 1)), ((0, 0),), ((0, "a", 0),))
        less = Pair("ab", ((0, 0),), ((0, 0),), ((0, "a", 0),))
        self.assertFalse(more == less)
        self.assertTrue(alike(more, less))

    def test_other_kinds(self):
        pair = Pair(*WIDE)
        for thing in (None, 0, WIDE, list(WIDE), "pair", True, object()):
            self.assertIs(pair == thing, False)
            self.assertIs(thing == pair, False)
            self.assertIs(pair != thing, True)


class Putting(unittest.TestCase):
    def test_by_definition(self):
        source = chance(7)
        for alphabet, big, most, further, longest in (("ab", 3, 4, 5, 6), ("abc", 2, 3, 4, 5), ("a", 4, 10, 10, 12)):
            for _ in range(20):
                one = Pair(*random_pair_parts(source, alphabet, big))
                other = Pair(*random_pair_parts(source, alphabet, big))
                kept = parts(one), parts(other)
                told = (
                    (one & other, lambda x, y: x and y), (one | other, lambda x, y: x or y), (~one, lambda x, y: not x),
                )
                for pair, rule in told:
                    for row in rows(alphabet, longest):
                        wanted = tuple(map(rule, pair_marks(one, row), pair_marks(other, row)))
                        self.assertEqual(pair(row), wanted)
                    self.assertEqual(least(pair), pair)
                self.assertEqual((parts(one), parts(other)), kept)
                self.assertEqual(one & other, other & one)
                self.assertEqual(~(~one | ~other), one & other)
                self.assertEqual(~~one, least(one))
                self.assertEqual(one & one, least(one))

    def test_least_by_definition(self):
        source = chance(8)
        for _ in range(20):
            one = Pair(*random_pair_parts(source, "ab", 2))
            other = Pair(*random_pair_parts(source, "ab", 2))
            for pair in (one & other, one | other, ~one):
                left, right, told = table("ab", lambda row: pair_marks(pair, row), 4, 5)
                self.assertEqual(parts(pair), ("ab", left, right, marked_of("ab", told)))

    def test_unlike_alphabets(self):
        one, other = Pair(*EVEN), Pair("abc", ((0, 0, 0),), ((0, 0, 0),), ())
        for first, second in ((one, other), (other, one)):
            for put in (lambda x, y: x & y, lambda x, y: x | y):
                with self.assertRaises(Unlike) as held:
                    put(first, second)
                self.assertEqual(held.exception.word, "alphabet")

    def test_number_of_standings(self):
        def zero(many, side, letter=0):
            moves, still = counter(2, many, (letter,)), ((0, 0),)
            return Pair("ab", moves if side == "left" else still, still if side == "left" else moves,
                        ((0, "a", 0), (0, "b", 0)))

        for side in ("left", "right"):
            pair = zero(5, side) & zero(8, side)
            self.assertEqual(len(getattr(pair, side)), 40)
            pair = zero(5, side) | zero(8, side, 1)
            self.assertEqual(len(getattr(pair, side)), 40)
            for one, other, letter in ((6, 7, 0), (40, 39, 0), (40, 3, 0), (6, 7, 1), (20, 3, 1), (40, 40, 1)):
                for put in (lambda x, y: x & y, lambda x, y: x | y):
                    with self.assertRaises(TooMany) as held:
                        put(zero(one, side), zero(other, side, letter))
                    self.assertEqual(held.exception.word, "standing")
            self.assertEqual(len(getattr(~zero(40, side), side)), 40)
        both = zero(40, "left") & zero(40, "right")
        self.assertEqual((len(both.left), len(both.right)), (40, 40))

    def test_40_and_41_standings(self):
        def counting(many, side):
            """No b so far, and the number of letters so far is a multiple of many."""
            moves = tuple(((p + 1) % many, many) for p in range(many)) + ((many, many),)
            return Pair("ab", *sided(moves, side), ((0, "a", 0), (0, "b", 0)))

        def sided(moves, side):
            return (moves, ((0, 0),)) if side == "left" else (((0, 0),), moves)

        for side in ("left", "right"):
            once = [(1, "a", 0), (1, "b", 0)] if side == "left" else [(0, "a", 1), (0, "b", 1)]
            just = Pair("ab", *sided(((0, 1), (2, 2), (2, 2)), side), once)
            self.assertEqual(len(getattr(counting(39, side) & ~just, side)), 40)
            self.assertEqual(len(getattr(counting(38, side) | just, side)), 40)
            with self.assertRaises(TooMany) as held:
                counting(39, side) | just
            self.assertEqual(held.exception.word, "standing")

    def test_big_readers_that_are_small_marks(self):
        # Readers that reach 40 times 39 standings together, but whose marks are put to nothing.
        one = Pair("ab", counter(2, 40), counter(2, 40), ((0, "a", 0),))
        other = Pair("ab", counter(2, 39), counter(2, 39), ((0, "b", 0),))
        nothing = one & other
        self.assertEqual(parts(nothing), ("ab", ((0, 0),), ((0, 0),), ()))
        self.assertEqual(one | ~one, Pair.of_letters("ab", "ab"))


class OfLetters(unittest.TestCase):
    def test_of_letters(self):
        for alphabet, letters in (("ab", ""), ("ab", "b"), ("ab", "ba"), ("acd", "dc"), ("abcdefgh", "hgfedcba")):
            pair = Pair.of_letters(alphabet, letters)
            still = (tuple([0] * len(alphabet)),)
            self.assertEqual(parts(pair), (alphabet, still, still, tuple((0, x, 0) for x in sorted(letters))))
            self.assertIsInstance(pair, Pair)
            for row, place in placed(alphabet, 3):
                self.assertEqual((row, place) in pair, row[place] in letters)
        self.assertEqual(Pair.of_letters(letters="a", alphabet="ab"), Pair.of_letters("ab", "a"))

    def test_errors(self):
        for thing in ("c", "aa", "aba", "abc", None, 0, True, ("a",), ["a", "b"], {"a"}, b"a", "A", " ", "a b"):
            with self.assertRaises(BadLetters) as held:
                Pair.of_letters("ab", thing)
            self.assertIs(held.exception.thing, thing)
        for thing in NO_ALPHABETS:
            with self.assertRaises(BadAlphabet) as held:
                Pair.of_letters(thing, None)
            self.assertIs(held.exception.thing, thing)


if __name__ == "__main__":
    unittest.main()
