"""Sayings ([10])."""

import copy
import unittest

from saidhere.errors import BadAlphabet, BadCut, BadMarked, BadReader, BadSaying, BadSheet, Free, TooMany
from saidhere.sayings import saying
from tests.plainly import as_lists, counter, is_tuples
from tests.test_plain import NO_ALPHABETS

TENSE = ("tense", (("letter", "b"), ("next", 0), ("not", 1)))
NAMED = ("named", (("less", "x", "y"), ("letter", "b", "y"), ("and", 0, 1), ("some", "y", 2)))
CUTS = ("cuts", (("none",), ("not", 0), ("empty",)), ((1, "b", 2), (1, "b", 2), (2, "a", 0)))
PAIR = ("pair", ((1, 0), (0, 1)), ((0, 0),), ((0, "a", 0), (0, "b", 0)))
SAYINGS = (TENSE, NAMED, CUTS, PAIR)


class Kept(unittest.TestCase):
    def test_of_each_kind(self):
        for thing in SAYINGS + (
            ("tense", (("yes",),)), ("named", (("yes",),)), ("cuts", (("none",),), ()), ("pair", ((0, 0),), ((0, 0),), ()),
            ("named", (("less", "y", "z"), ("letter", "a", "x"))),
        ):
            self.assertEqual(saying("ab", thing), thing)
            self.assertEqual(saying(thing=thing, alphabet="ab"), thing)
            passed = as_lists(thing)
            before = copy.deepcopy(passed)
            told = saying("ab", passed)
            self.assertEqual(passed, before)
            for item in passed:
                if isinstance(item, list):
                    item.clear()
            passed.clear()
            self.assertEqual(told, thing)
            self.assertTrue(is_tuples(told))

    def test_sheets_stay_as_they_are(self):
        # They are not made tidy.
        thing = ("tense", (("yes",), ("no",), ("yes",)))
        self.assertEqual(saying("ab", thing), thing)

    def test_greatest_ones(self):
        sheet = (("yes",),) + tuple(("not", k) for k in range(5999))
        self.assertEqual(saying("a", ("tense", sheet))[1], sheet)
        self.assertEqual(saying("a", ["named", list(sheet)])[1], sheet)
        cuts = ((0, "a", 0),) * 400
        self.assertEqual(saying("a", ("cuts", (("none",),), cuts))[2], cuts)
        side = counter(1, 40)
        marked = tuple((p, "a", q) for p in range(40) for q in range(40))
        self.assertEqual(saying("a", ("pair", side, side, marked)), ("pair", side, side, marked))


class Wrong(unittest.TestCase):
    def bad(self, error, thing, alphabet="ab"):
        with self.assertRaises(error) as held:
            saying(alphabet, thing)
        return held.exception

    def test_the_alphabet_goes_ahead(self):
        for alphabet in NO_ALPHABETS:
            self.assertIs(self.bad(BadAlphabet, None, alphabet).thing, alphabet)

    def test_no_sayings(self):
        for thing in (
            None, 0, True, "", "tense", "pair", (), [], {}, {"tense": 1}, b"tense", (TENSE,), ("tense",), ("tense", (), ()),
            ("named",), ("named", NAMED[1], NAMED[1]), ("cuts",), CUTS[:2], CUTS + ((),), ("pair",), PAIR[:3], PAIR + ((),),
            ("sets", CUTS[1]), ("Tense", TENSE[1]), ("", TENSE[1]), (None, TENSE[1]), (0, TENSE[1]), (("tense",), TENSE[1]),
            (["tense"], TENSE[1]), TENSE[::-1], ["cuts", CUTS[1]], (TENSE[1],), ({}, 1),
        ):
            self.assertIs(self.bad(BadSaying, thing).thing, thing)

    def test_tense(self):
        for sheet, number in (((), -1), (None, -1), ((("letter", "c"),), 0), ((("yes",), ("letter", "a", "x")), 1)):
            self.assertEqual(self.bad(BadSheet, ("tense", sheet)).number, number)
        self.assertEqual(self.bad(BadSheet, ("tense", (("yes",),) * 6001)).number, -1)

    def test_named(self):
        for sheet, number in (((), -1), ("x", -1), ((("letter", "a"),), 0), ((("yes",), ("next", 0)), 1)):
            self.assertEqual(self.bad(BadSheet, ("named", sheet)).number, number)
        six = [("less", "u", "v"), ("less", "w", "x"), ("less", "y", "z")]
        self.assertEqual(self.bad(TooMany, ("named", six)).word, "name")
        self.assertEqual(self.bad(TooMany, ("named", six + [("yes",)])).word, "name")
        self.assertEqual(self.bad(BadSheet, ("named", six + [("not", 3)])).number, 3)
        for part, name in ((("less", "x", "y"), "y"), (("less", "z", "w"), "w"), (("letter", "b", "u"), "u")):
            self.assertEqual(self.bad(Free, ("named", (part,))).name, name)
            self.assertEqual(saying("ab", ("named", (part, ("yes",))))[1][0], part)

    def test_cuts(self):
        for sheet in ((), (("yes",),), None):
            self.assertIn(self.bad(BadSheet, ("cuts", sheet, None)).number, (-1, 0))
        for cuts, number in (
            (None, -1), (((0, "a", 0),) * 401, -1), (((0, "a", 0), (0, "a", 3)), 1), (((0, "c", 0), None), 0), ("", -1),
        ):
            self.assertEqual(self.bad(BadCut, ("cuts", CUTS[1], cuts)).number, number)

    def test_pairs(self):
        for at, side in ((1, "left"), (2, "right")):
            for moves, number in (
                ((), -1), (None, -1), (counter(2, 41), -1), (((0, 1),), 0), (((0, 0), (0,)), 1), (((0, 0), (True, 0)), 1),
            ):
                thing = list(PAIR)
                thing[2] = thing[3] = "wrong"
                if at == 2:
                    thing[2] = ((0, 0),)
                thing[at] = moves
                error = self.bad(BadReader, thing)
                self.assertEqual((error.side, error.number), (side, number))
        for marked, number in (
            (None, -1), (((0, "a", 0), (0, "a", 0)), 1), (((1, "a", 0), (0, "a", 0)), 1), (((0, "a", 1),), 0),
            (((0, "c", 0),), 0), (((0, "a"),), 0), (((2, "a", 0),), 0), ("a", -1),
        ):
            self.assertEqual(self.bad(BadMarked, PAIR[:3] + (marked,)).number, number)


if __name__ == "__main__":
    unittest.main()
