"""Tidy sheets ([8])."""

import copy
import unittest

from saidhere.errors import BadAlphabet, BadSheet, TooMany
from saidhere.tidying import tidy_named, tidy_set, tidy_tense
from tests import plainly
from tests.plainly import as_lists, chance, is_tuples, random_sheet, tidy
from tests.test_plain import NO_ALPHABETS

YES = ("yes",)
KINDS = ((tidy_tense, plainly.TENSE_FORMS), (tidy_named, plainly.NAMED_FORMS), (tidy_set, plainly.SET_FORMS))


class Tidying(unittest.TestCase):
    def test_by_hand(self):
        sheet = (("letter", "b"), ("letter", "a"), ("or", 0, 1), ("no",), ("letter", "b"), ("until", 1, 2), ("or", 4, 1))
        self.assertEqual(tidy_tense("ab", sheet), (("letter", "b"), ("letter", "a"), ("or", 0, 1)))
        wanted = (("letter", "a"), ("letter", "b"), ("or", 1, 0), ("until", 0, 2))
        self.assertEqual(tidy_tense("ab", sheet[:6]), wanted)
        # Parts that come to be equal only when those they refer to are: listed once.
        sheet = (("letter", "a"), ("letter", "a"), ("not", 0), ("not", 1), ("and", 3, 2), ("and", 2, 3), ("since", 4, 5))
        self.assertEqual(tidy_tense("ab", sheet), (("letter", "a"), ("not", 0), ("and", 1, 1), ("since", 2, 2)))
        sheet = (("less", "y", "x"), ("letter", "b", "y"), ("some", "y", 0), ("and", 1, 0), ("all", "y", 3))
        self.assertEqual(tidy_named("ab", sheet), (("letter", "b", "y"), ("less", "y", "x"), ("and", 0, 1), ("all", "y", 2)))
        sheet = (("none",), ("empty",), ("not", 0), ("letter", "a"), ("then", 2, 3), ("then", 4, 2))
        self.assertEqual(tidy_set("ab", sheet), (("none",), ("not", 0), ("letter", "a"), ("then", 1, 2), ("then", 3, 1)))
        self.assertEqual(tidy_set("ab", (("none",), ("empty",))), (("empty",),))

    def test_by_definition(self):
        source = chance(50)
        for function, forms in KINDS:
            for _ in range(300):
                sheet = random_sheet(source, "ab", forms, source.randint(1, 12))
                told = function("ab", sheet)
                self.assertEqual(told, tidy(sheet))
                self.assertEqual(function("ab", told), told)

    def test_lists_become_tuples(self):
        source = chance(51)
        for function, forms in KINDS:
            passed = as_lists(random_sheet(source, "ab", forms, 9))
            before = copy.deepcopy(passed)
            told = function(sheet=passed, alphabet="ab")
            self.assertEqual(passed, before)
            self.assertTrue(is_tuples(told))
            wanted = tidy(tuple(tuple(part) for part in passed))
            for part in passed:
                part.clear()
            self.assertEqual(told, wanted)

    def test_6000_parts(self):
        for function, forms in KINDS:
            start = ("none",) if function is tidy_set else YES
            deep = (start,) + tuple(("not", k) for k in range(5999))
            self.assertEqual(function("a", deep), deep)
            doubled = (start,) + tuple(("or", k, k) for k in range(5999))
            self.assertEqual(function("a", doubled), doubled)
            both = (start,) + tuple(("and", k, max(0, k - 1)) for k in range(5999))
            self.assertEqual(function("a", both), both)
            crossed = (start,) + tuple(("and", max(0, k - 1), k) for k in range(5999))
            self.assertEqual(len(function("a", crossed)), 6000)
            flat = (start,) * 5999 + (("not", 5998),)
            self.assertEqual(function("a", flat), (start, ("not", 0)))
            for sheet in (deep + (start,), ()):
                with self.assertRaises(BadSheet) as held:
                    function("a", sheet)
                self.assertEqual(held.exception.number, -1)

    def test_errors(self):
        for function, _ in KINDS:
            for thing in NO_ALPHABETS:
                with self.assertRaises(BadAlphabet) as held:
                    function(thing, None)
                self.assertIs(held.exception.thing, thing)
            for part in (("maybe",), ("not", True), ("and", 0), ("letter", "c"), ("not", 1), None):
                with self.assertRaises(BadSheet) as held:
                    function("ab", (("not", 0),) if part is None else (_first(function), part, ("not", 7)))
                self.assertEqual(held.exception.number, 0 if part is None else 1)
        with self.assertRaises(TooMany) as held:
            tidy_named("ab", (("less", "u", "v"), ("less", "w", "x"), ("less", "y", "z"), YES))
        self.assertEqual(held.exception.word, "name")
        with self.assertRaises(BadSheet):
            tidy_tense("ab", (("none",),))
        with self.assertRaises(BadSheet):
            tidy_set("ab", (YES,))
        with self.assertRaises(BadSheet):
            tidy_named("ab", (("letter", "a"),))


def _first(function):
    return ("empty",) if function is tidy_set else YES


if __name__ == "__main__":
    unittest.main()
