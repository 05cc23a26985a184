"""Tense sheets ([3])."""

import copy
import unittest

from saidhere.errors import BadAlphabet, BadSheet
from saidhere.tense import comings, heights, mirrored_sheet, pasts, tense_sheet
from tests.plainly import TENSE_FORMS, as_lists, chance, is_tuples, random_sheet, rows, tense_holds

ALL_FORMS = (
    ("yes",), ("no",), ("letter", "a"), ("letter", "b"), ("not", 0), ("and", 2, 2), ("or", 0, 3), ("next", 6),
    ("prev", 7), ("until", 3, 8), ("since", 9, 1), ("since", 2, 3), ("until", 2, 3), ("and", 11, 12), ("not", 8),
)
FUNCTIONS = (tense_sheet, heights, pasts, comings, mirrored_sheet)
YES = ("yes",)
WRONG_PARTS = [
    (), [], ("yes", 0), ("yes", "a"), ("no", 0), ("maybe",), ("Yes",), ("",), "yes", "", None, 0, True, ["yes", 1],
    ("letter",), ("letter", "c"), ("letter", "ab"), ("letter", ""), ("letter", 0), ("letter", "a", "b"),
    ("letter", ["a"]), ("letter", None), ("not",), ("not", 2), ("not", -1), ("not", True), ("not", False),
    ("not", "0"), ("not", 0, 0), ("not", None), ("not", (0,)), ("not", 1.0), ("not", 10 ** 59), ("and", 0),
    ("and", 0, 2), ("and", 2, 0), ("and", 0, 1, 1), ("and", True, 0), ("or", 0), ("or", 0, False), ("or", -1, 0),
    ("next",), ("next", 2), ("next", 0, 1), ("prev", False), ("prev", 3), ("until", 0), ("until", 0, 2),
    ("until", 0, 0, 0), ("since", 2, 0), ("since", 0), (["yes"],), (("yes",),), (0, 0), (True,), (None,), {"yes": 1},
    {"not"}, b"no", ("some", "x", 0), ("less", "x", "y"), ("then", 0, 0), ("mark", 0), ("empty",), ("letter", "a", "x"),
]


class Sheets(unittest.TestCase):
    def test_all_forms(self):
        self.assertEqual(tense_sheet("ab", ALL_FORMS), ALL_FORMS)
        for sheet in (((YES,)), ((("letter", "h"),)), (("no",), ("until", 0, 0))):
            sheet = sheet if isinstance(sheet[0], tuple) else (sheet,)
            self.assertEqual(tense_sheet("abh", sheet), sheet)

    def test_lists_become_tuples(self):
        passed = as_lists(ALL_FORMS)
        before = copy.deepcopy(passed)
        told = [function("ab", passed) for function in FUNCTIONS]
        self.assertEqual(told, [function("ab", ALL_FORMS) for function in FUNCTIONS])
        self.assertEqual(passed, before)
        for thing in told:
            self.assertIsInstance(thing, tuple)
            self.assertTrue(is_tuples(thing))
        passed[2][1] = "b"
        passed.append(["no"])
        self.assertEqual(told[0], ALL_FORMS)

    def test_by_names(self):
        for function in FUNCTIONS:
            self.assertEqual(function(sheet=ALL_FORMS, alphabet="ab"), function("ab", ALL_FORMS))

    def test_number_of_parts(self):
        whole = (YES,) + tuple(("not", k) for k in range(5999))
        self.assertEqual(tense_sheet("a", whole), whole)
        self.assertEqual(heights("a", whole), (0,) * 6000)
        self.assertEqual(pasts("a", list(whole)), (True,) * 6000)
        self.assertEqual(mirrored_sheet("a", whole), whole)
        deep = (YES,) + tuple(("next", k) for k in range(5999))
        self.assertEqual(heights("a", deep), tuple(range(6000)))
        for function in FUNCTIONS:
            for sheet in (whole + (YES,), list(whole) + ["wrong"], (), []):
                with self.assertRaises(BadSheet) as held:
                    function("a", sheet)
                self.assertEqual(held.exception.number, -1)

    def test_no_sheets(self):
        for thing in (None, "yes", "", 0, True, YES[0], {0: YES}, {YES}, b"a", 1.5, iter([YES])):
            for function in FUNCTIONS:
                with self.assertRaises(BadSheet) as held:
                    function("ab", thing)
                self.assertEqual(held.exception.number, -1)

    def test_wrong_parts(self):
        for part in WRONG_PARTS:
            for function in FUNCTIONS:
                with self.assertRaises(BadSheet) as held:
                    function("ab", (("letter", "a"), ("letter", "b"), part, YES))
                self.assertEqual(held.exception.number, 2, part)
        self.assertEqual(len(tense_sheet("ab", (YES, YES, ("and", 1, 0)))), 3)

    def test_the_first_wrong_part_is_told(self):
        with self.assertRaises(BadSheet) as held:
            tense_sheet("ab", (YES, ("letter", "c"), ("not", 7), "x"))
        self.assertEqual(held.exception.number, 1)
        with self.assertRaises(BadSheet) as held:
            tense_sheet("ab", (("not", 0),))
        self.assertEqual(held.exception.number, 0)

    def test_the_alphabet_goes_ahead(self):
        thing = ["a"]
        for alphabet in ("", "ba", thing, None):
            for function in FUNCTIONS:
                with self.assertRaises(BadAlphabet) as held:
                    function(alphabet, None)
                self.assertIs(held.exception.thing, alphabet)


class Readings(unittest.TestCase):
    def test_told_by_hand(self):
        self.assertEqual(heights("ab", ALL_FORMS), (0, 0, 0, 0, 0, 0, 0, 1, 2, 3, 4, 1, 1, 1, 2))
        wanted = (True,) * 7 + (False,) * 4 + (True, False, False, False)
        self.assertEqual(pasts("ab", ALL_FORMS), wanted)
        wanted = (True,) * 8 + (False,) * 4 + (True, False, False)
        self.assertEqual(comings("ab", ALL_FORMS), wanted)
        self.assertEqual(mirrored_sheet("ab", ALL_FORMS), (
            ("yes",), ("no",), ("letter", "a"), ("letter", "b"), ("not", 0), ("and", 2, 2), ("or", 0, 3),
            ("prev", 6), ("next", 7), ("since", 3, 8), ("until", 9, 1), ("until", 2, 3), ("since", 2, 3),
            ("and", 11, 12), ("not", 8),
        ))

    def test_values_are_true_and_false(self):
        for function in (pasts, comings):
            for worth in function("ab", ALL_FORMS):
                self.assertIn(worth, (True, False))
                self.assertIsInstance(worth, bool)

    def test_by_definition(self):
        source = chance(3)
        for _ in range(60):
            sheet = random_sheet(source, "ab", TENSE_FORMS, 6)
            mirror = mirrored_sheet("ab", sheet)
            self.assertEqual(mirrored_sheet("ab", mirror), sheet)
            self.assertEqual(pasts("ab", mirror), comings("ab", sheet))
            self.assertEqual(heights("ab", mirror), heights("ab", sheet))
            past, coming = pasts("ab", sheet), comings("ab", sheet)
            for row in rows("ab", 4):
                for place in range(len(row)):
                    for number in range(len(sheet)):
                        held = tense_holds(sheet, row, number, place)
                        turned = tense_holds(mirror, row[::-1], number, len(row) - 1 - place)
                        self.assertEqual(held, turned)
                        if past[number]:
                            self.assertEqual(held, tense_holds(sheet, row[:place + 1], number, place))
                        if coming[number]:
                            self.assertEqual(held, tense_holds(sheet, row[place:], number, 0))


if __name__ == "__main__":
    unittest.main()
