"""Flag readers ([18])."""

import copy
import itertools
import unittest

from saidhere.errors import BadAccepted, BadAlphabet, BadMove, BadNames, BadPlaces, BadRow
from saidhere.flags import Reader
from saidhere.pairs import Pair
from tests.plainly import as_lists, chance, flag_accepts, is_tuples, rows
from tests.test_plain import NO_ALPHABETS

# Over ab with the name x: the rows with an a at x, nowhere else x.
AT_A = Reader("ab", "x", ((0, 1, 0, 2), (1, 2, 1, 2), (2, 2, 2, 2)), (1,))


def ring(alphabet, names, many):
    """Moves that step through so many standings, whatever is read."""
    letters = len(alphabet) * 2 ** len(names)
    return tuple(((k + 1) % many,) * letters for k in range(many))


class Readers(unittest.TestCase):
    def test_attributes(self):
        self.assertEqual((AT_A.alphabet, AT_A.names), ("ab", "x"))
        self.assertEqual(AT_A.moves, ((0, 1, 0, 2), (1, 2, 1, 2), (2, 2, 2, 2)))
        self.assertEqual((AT_A.accepted, len(AT_A)), ((1,), 3))
        other = Reader(accepted=(), moves=((0,) * 16,), names="uvwz", alphabet="a")
        self.assertEqual((other.alphabet, other.names, other.accepted, len(other)), ("a", "uvwz", (), 1))

    def test_asked(self):
        self.assertIs(AT_A("aba", (0,)), True)
        self.assertIs(AT_A("aba", [2]), True)
        self.assertIs(AT_A(row="aba", places=(1,)), False)
        even = Reader("ab", "", ((1, 1), (0, 0)), (0,))
        self.assertIs(even(""), True)
        self.assertIs(even("a"), False)
        self.assertIs(even("ab", ()), True)
        self.assertIs(even("ab", []), True)
        self.assertIs(even("b" * 200), True)

    def test_by_definition(self):
        source = chance(330)
        for alphabet, names in (("a", "xyz"), ("ab", "uxyz"), ("bdh", "wy"), ("ab", ""), ("abcdefgh", "x"), ("ag", "yz")):
            letters = len(alphabet) * 2 ** len(names)
            many = source.randint(2, 7)
            moves = tuple(tuple(source.randrange(many) for _ in range(letters)) for _ in range(many))
            accepted = tuple(k for k in range(many) if source.random() < 0.5)
            reader = Reader(alphabet, names, moves, accepted)
            for row in rows(alphabet, 3 if len(alphabet) < 4 else 2):
                for places in itertools.product(range(len(row)), repeat=len(names)):
                    flags = [[name for name, place in zip(names, places) if place == k] for k in range(len(row))]
                    self.assertIs(reader(row, places), flag_accepts(reader, row, flags))

    def test_flagged_letters(self):
        # Each flagged letter leads to its own standing: t * 4, and 1 for x, 2 for y.
        reader = Reader("ab", "xy", (tuple(range(8)),) + tuple((k,) * 8 for k in range(1, 8)), (7,))
        for letter, places, at in (("a", (0, 1), 1), ("a", (1, 0), 2), ("a", (0, 0), 3), ("a", (1, 1), 0), ("b", (0, 1), 5),
                                   ("b", (1, 0), 6), ("b", (0, 0), 7), ("b", (1, 1), 4)):
            told = [Reader("ab", "xy", reader.moves, (k,))(letter + "a", places) for k in range(8)]
            # From the standing 0 the second letter leads on.
            wanted = at
            if at == 0:
                wanted = sum(2 ** j for j in range(2) if places[j] == 1)
            self.assertEqual(told, [k == wanted for k in range(8)])

    def test_equal(self):
        parts = ("ab", "x", AT_A.moves, (1,))
        self.assertEqual(AT_A, Reader(*parts))
        for at, other in ((0, "bc"), (1, "y"), (2, ((0, 1, 0, 1), (1, 2, 1, 2), (2, 2, 2, 2))), (3, (0, 1)), (3, ())):
            changed = list(parts)
            changed[at] = other
            self.assertNotEqual(AT_A, Reader(*changed))
        for other in (None, 0, parts, list(parts), "x", Pair.of_letters("ab", "a"), {}):
            self.assertIs(AT_A == other, False)
            self.assertIs(AT_A != other, True)

    def test_lists_become_tuples(self):
        passed = as_lists((AT_A.moves, AT_A.accepted))
        before = copy.deepcopy(passed)
        reader = Reader("ab", "x", *passed)
        self.assertEqual(passed, before)
        passed[0][0][0] = 2
        passed[0].pop()
        passed[1].append(2)
        self.assertEqual(reader, AT_A)
        self.assertTrue(is_tuples(reader.moves) and is_tuples(reader.accepted))


class WrongReaders(unittest.TestCase):
    def wrong(self, error, what, *parts):
        with self.assertRaises(error) as held:
            Reader(*parts)
        told = held.exception
        if error in (BadAlphabet, BadNames):
            self.assertIs(told.thing, what)
        else:
            self.assertEqual(told.number, what)

    def test_alphabets(self):
        for thing in NO_ALPHABETS:
            self.wrong(BadAlphabet, thing, thing, None, None, None)

    def test_names(self):
        for thing in ("t", "xx", "yx", "X", "xa", "uvwxy", "uvwxyz", "x ", None, 0, True, ("x",), ["x", "y"], b"x", 1.5, {}):
            self.wrong(BadNames, thing, "ab", thing, None, None)
        for names in ("", "u", "z", "uz", "uvwx", "wxyz", "uvz"):
            self.assertEqual(Reader("a", names, ring("a", names, 1), ()).names, names)

    def test_moves(self):
        for thing in (None, 0, "ab", (), [], {}, {(0, 0): 1}, ring("a", "", 61), 1.5):
            self.wrong(BadMove, -1, "a", "", thing, None)
        good = (0, 1)
        for bad in (
            None, 0, "ab", (), (0,), (0, 1, 1), (0, 2), (0, -1), (True, 0), (0, False), (0, None), ("0", 0), (0, (1,)), (0, 1.0), {0: 0, 1: 1},
        ):
            self.wrong(BadMove, 1, "ab", "", (good, bad), None)
            self.wrong(BadMove, 0, "ab", "", [bad, bad], None)
        self.wrong(BadMove, 1, "a", "x", ((0, 1), (0,)), ())
        self.wrong(BadMove, 0, "a", "", ((0, 1), (0,)), ())
        self.wrong(BadMove, 0, "abcdefgh", "wxyz", ((0,) * 127,), ())

    def test_sixty_moves(self):
        for many in (1, 2, 59, 60):
            self.assertEqual(len(Reader("ab", "xy", ring("ab", "xy", many), tuple(range(many)))), many)
        self.wrong(BadMove, -1, "ab", "xy", ring("ab", "xy", 61), ())
        # The whole goes ahead of the first one that is wrong.
        self.wrong(BadMove, -1, "ab", "xy", (None,) * 61, ())
        self.assertEqual(len(Reader("abcdefgh", "wxyz", ring("abcdefgh", "wxyz", 60), ())), 60)

    def test_accepted(self):
        moves = ring("a", "", 3)
        for thing in (None, 0, "01", {}, {0: 1}, 1.5):
            self.wrong(BadAccepted, -1, "a", "", moves, thing)
        for thing, at in (
            ((3,), 0), ((-1,), 0), ((True,), 0), ((False, 1), 0), (("0",), 0), ((None,), 0), (((0,),), 0), ((0.0,), 0), ((0, 0), 1),
            ((1, 0), 1), ([0, 2, 1], 2), ((0, 1, 2, 3), 3), ((0, 1, True), 2), ((2, 2, "x"), 1), ((0, None, 0), 1),
        ):
            self.wrong(BadAccepted, at, "a", "", moves, thing)
        for thing in ((), [], (0,), (2,), (0, 1, 2), [1, 2]):
            self.assertEqual(Reader("a", "", moves, thing).accepted, tuple(thing))

    def test_several_wrong_ones(self):
        self.wrong(BadAlphabet, "ba", "ba", "yx", (), None)
        self.wrong(BadNames, "yx", "ab", "yx", (), None)
        self.wrong(BadMove, -1, "ab", "xy", (), None)
        self.wrong(BadAccepted, -1, "ab", "xy", ring("ab", "xy", 1), None)

    def test_rows_and_places(self):
        for row, at in (("abc", 2), ("ca", 0), (None, -1), (["a"], -1), ("a" * 201, -1), ("A", 0)):
            with self.assertRaises(BadRow) as held:
                AT_A(row, None)
            self.assertEqual(held.exception.at, at)
        for places in (
            (), None, 0, "0", (2,), (-1,), (0, 1), (True,), (None,), ("0",), ((0,),), (0.0,), {0: 0}, {"x": 0}, [False],
        ):
            with self.assertRaises(BadPlaces) as held:
                AT_A("ab", places)
            self.assertIs(held.exception.thing, places)
        with self.assertRaises(BadPlaces) as held:
            AT_A("ab")
        self.assertEqual(held.exception.thing, ())
        with self.assertRaises(BadPlaces):
            AT_A("", (0,))
        with self.assertRaises(BadPlaces):
            Reader("a", "", ((0,),), ())("a", (0,))


if __name__ == "__main__":
    unittest.main()
