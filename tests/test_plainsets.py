"""Set sheets and cuts ([5])."""

import copy
import unittest

from saidhere.errors import BadAlphabet, BadCut, BadSheet
from saidhere.plainsets import cut_list, set_sheet
from tests.plainly import as_lists, is_tuples
from tests.test_plain import NO_ALPHABETS

ALL_FORMS = (
    ("none",), ("empty",), ("letter", "a"), ("letter", "b"), ("not", 0), ("and", 2, 2), ("or", 0, 3), ("then", 4, 6),
    ("then", 7, 7),
)
NONE = ("none",)
WRONG_PARTS = [
    (), [], ("none", 0), ("empty", 0), ("empty", "a"), ("letter",), ("letter", "c"), ("letter", "ab"), ("letter", ""),
    ("letter", 0), ("letter", "a", "x"), ("letter", "a", 0), ("not",), ("not", 2), ("not", -1), ("not", True),
    ("not", "0"), ("not", 0, 0), ("and", 0), ("and", 0, 2), ("and", False, 0), ("or", 0, 1, 1), ("or", 2, 0), ("then",),
    ("then", 0), ("then", 0, 2), ("then", -1, 0), ("then", 0, True), ("then", 0, 0, 0), ("yes",), ("no",), ("next", 0),
    ("until", 0, 0), ("some", "x", 0), ("None",), None, 0, True, "none", "empty", {"none": 1}, (["none"],), (None,), (0,),
]
CUTS = ((0, "a", 0), (8, "b", 1), (8, "b", 1), (3, "a", 7))
WRONG_CUTS = [
    (), (0, "a"), (0, "a", 0, 0), (9, "a", 0), (0, "a", 9), (-1, "a", 0), (0, "a", -1), (True, "a", 0), (0, "a", False),
    (0, "c", 0), (0, "", 0), (0, "ab", 0), (0, 0, 0), ("a", 0, 0), (0, 0, "a"), None, "0a0", 0, True, (None, "a", 0),
    (0, None, 0), (0, "a", "0"), (0, ("a",), 0), ((0,), "a", 0), {0: 1, 1: 2, 2: 3}, (10 ** 59, "a", 0),
]


class Sheets(unittest.TestCase):
    def test_all_forms(self):
        self.assertEqual(set_sheet("ab", ALL_FORMS), ALL_FORMS)
        self.assertEqual(set_sheet(sheet=(("letter", "h"),), alphabet="ch"), (("letter", "h"),))

    def test_lists_become_tuples(self):
        passed, cuts = as_lists(ALL_FORMS), as_lists(CUTS)
        before = copy.deepcopy((passed, cuts))
        told, list_told = set_sheet("ab", passed), cut_list("ab", passed, cuts)
        self.assertEqual((passed, cuts), before)
        passed[2][1] = "b"
        passed.append(["none"])
        cuts[0][0] = 1
        cuts.clear()
        self.assertEqual((told, list_told), (ALL_FORMS, CUTS))
        self.assertTrue(is_tuples(told) and is_tuples(list_told))

    def test_number_of_parts(self):
        whole = (NONE,) + tuple(("then", k, k) for k in range(5999))
        self.assertEqual(set_sheet("a", whole), whole)
        self.assertEqual(cut_list("a", whole, [[5999, "a", 0]]), ((5999, "a", 0),))
        for sheet in (whole + (NONE,), list(whole) + [None], (), [], None, "none", 0, {0: NONE}, NONE[0]):
            for function in (set_sheet, lambda alphabet, parts: cut_list(alphabet, parts, None)):
                with self.assertRaises(BadSheet) as held:
                    function("a", sheet)
                self.assertEqual(held.exception.number, -1)

    def test_wrong_parts(self):
        for part in WRONG_PARTS:
            for sheet in ((NONE, NONE, part, NONE), [NONE, NONE, part, None]):
                with self.assertRaises(BadSheet) as held:
                    set_sheet("ab", sheet)
                self.assertEqual(held.exception.number, 2, part)
                with self.assertRaises(BadSheet) as held:
                    cut_list("ab", sheet, "wrong")
                self.assertEqual(held.exception.number, 2, part)

    def test_the_alphabet_goes_ahead(self):
        for thing in NO_ALPHABETS:
            for function in (set_sheet, lambda alphabet, parts: cut_list(alphabet, parts, None)):
                with self.assertRaises(BadAlphabet) as held:
                    function(thing, ())
                self.assertIs(held.exception.thing, thing)


class Cuts(unittest.TestCase):
    def test_told(self):
        self.assertEqual(cut_list("ab", ALL_FORMS, CUTS), CUTS)
        self.assertEqual(cut_list(cuts=CUTS, sheet=ALL_FORMS, alphabet="ab"), CUTS)
        self.assertEqual(cut_list("ab", ALL_FORMS, ()), ())
        self.assertEqual(cut_list("ab", ALL_FORMS, []), ())

    def test_number_of_cuts(self):
        self.assertEqual(cut_list("ab", ALL_FORMS, CUTS * 100), CUTS * 100)
        for cuts in (CUTS * 100 + (CUTS[0],), ["wrong"] * 401, None, 0, "", "a", {}, {0: CUTS[0]}, b""):
            with self.assertRaises(BadCut) as held:
                cut_list("ab", ALL_FORMS, cuts)
            self.assertEqual(held.exception.number, -1, cuts)

    def test_wrong_cuts(self):
        for cut in WRONG_CUTS:
            for cuts in (CUTS + (cut, "wrong"), [*CUTS, cut, CUTS[0]]):
                with self.assertRaises(BadCut) as held:
                    cut_list("ab", ALL_FORMS, cuts)
                self.assertEqual(held.exception.number, 4, cut)
        with self.assertRaises(BadCut) as held:
            cut_list("ab", ALL_FORMS[:8], CUTS)
        self.assertEqual(held.exception.number, 1)


if __name__ == "__main__":
    unittest.main()
