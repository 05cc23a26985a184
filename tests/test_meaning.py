"""What sheets and cuts say of one row ([7], with [3], [4], [5])."""

import copy
import itertools
import time
import unittest

from saidhere.errors import BadAlphabet, BadCut, BadPlaces, BadRow, BadSheet, Free, TooLong, TooMany
from saidhere.meaning import cut_marks, named_holds, named_marks, set_has, tense_marks
from saidhere.named import free_names
from saidhere.namedtext import read_named
from saidhere.settext import read_set
from saidhere.tense import comings, heights, mirrored_sheet, pasts
from saidhere.tensetext import read_tense
from tests import plainly
from tests.plainly import as_lists, chance, cut_holds, random_sheet, rows, set_holds, tense_holds
from tests.test_plain import NO_ALPHABETS

YES, NONE = ("yes",), ("none",)
BY_ROW = (
    (lambda alphabet, sheet, row: tense_marks(alphabet, sheet, row), YES),
    (lambda alphabet, sheet, row: named_holds(alphabet, sheet, row, None), YES),
    (lambda alphabet, sheet, row: named_marks(alphabet, sheet, row), YES),
    (lambda alphabet, sheet, row: cut_marks(alphabet, sheet, (), row), NONE),
    (lambda alphabet, sheet, row: set_has(alphabet, sheet, row), NONE),
)


class Tense(unittest.TestCase):
    def marks(self, text, row, alphabet="ab"):
        return "".join("-+"[mark] for mark in tense_marks(alphabet, read_tense(alphabet, text), row))

    def test_by_hand(self):
        for text, row, wanted in (
            ("yes", "abb", "+++"), ("no", "abb", "---"), ("b", "abb", "-++"), ("not b", "abb", "+--"), ("yes", "", ""),
            ("next b", "abb", "++-"), ("prev a", "abb", "-+-"), ("next yes", "a", "-"), ("not prev yes", "aab", "+--"),
            # At the place itself, and at the place m, the first one need not hold.
            ("b until a", "abba", "+++-"), ("b until a", "aaba", "+++-"), ("a until b", "abab", "+++-"),
            ("no until b", "aabab", "-+-+-"), ("yes until b", "aabaa", "++---"), ("no until yes", "aab", "++-"),
            ("b since a", "abba", "-+++"), ("no since b", "babaa", "-+-+-"), ("yes since b", "aabaa", "---++"),
            ("no since yes", "aab", "-++"), ("a until a", "bbb", "---"), ("b until a", "bbbb", "----"),
            ("not a until b and next (a or b)", "aabba", "-++--"),
        ):
            self.assertEqual(self.marks(text, row), wanted, (text, row))

    def test_by_definition(self):
        source = chance(60)
        for _ in range(150):
            sheet = random_sheet(source, "ab", plainly.TENSE_FORMS, source.randint(1, 9))
            last = len(sheet) - 1
            for row in rows("ab", 4) + ["abbab", "bbaaab", "aaaaabb"]:
                told = tense_marks("ab", sheet, row)
                self.assertIsInstance(told, tuple)
                wanted = tuple(tense_holds(sheet, row, last, place) for place in range(len(row)))
                self.assertEqual(told, wanted, (sheet, row))
                self.assertTrue(all(mark is True or mark is False for mark in told))
                mirrored = tense_marks("ab", mirrored_sheet("ab", sheet), row[::-1])
                self.assertEqual(mirrored, told[::-1])

    def test_what_past_and_coming_parts_hang_on(self):
        source = chance(61)
        for _ in range(60):
            sheet = random_sheet(source, "ab", plainly.TENSE_FORMS, 6)
            past, coming = pasts("ab", sheet)[-1], comings("ab", sheet)[-1]
            for row in rows("ab", 3, 1):
                told = tense_marks("ab", sheet, row)
                for more in rows("ab", 2):
                    if past:
                        self.assertEqual(tense_marks("ab", sheet, row + more)[:len(row)], told)
                    if coming:
                        self.assertEqual(tense_marks("ab", sheet, more + row)[len(more):], told)
            if heights("ab", sheet)[-1] == 0:
                self.assertTrue(past and coming)

    def test_long_rows_and_sheets(self):
        row = "ab" * 100
        self.assertEqual(tense_marks("ab", read_tense("ab", "next b"), row), (True, False) * 100)
        deep = (("letter", "a"),) + tuple(("next", k) for k in range(199))
        self.assertEqual(tense_marks("ab", deep, "b" * 199 + "a"), (True,) + (False,) * 199)
        self.assertEqual(tense_marks("ab", deep, "b" * 198 + "aa"), (True,) + (False,) * 199)
        words = ("next", "prev", "not")
        deep = (YES,) + tuple((words[k % 3], k) for k in range(5999))
        self.assertEqual(len(tense_marks("ab", deep, row)), 200)
        deep = (YES,) + tuple(("until", k, k) for k in range(5999))
        self.assertEqual(tense_marks("ab", deep, row), (False,) * 200)
        deep = (YES,) + tuple(("since", k, 0) for k in range(5999))
        self.assertEqual(tense_marks("ab", deep, row), (False,) + (True,) * 199)


class Named(unittest.TestCase):
    def test_by_hand(self):
        for text, row, wanted in (
            ("yes", "ab", (True, True)), ("no", "ab", (False, False)), ("b at x", "abb", (False, True, True)),
            ("some y (x < y and b at y)", "abab", (True, True, True, False)),
            ("some y x < y", "aaa", (True, True, False)), ("all y not y < x", "aaa", (True, False, False)),
            ("some y b at y", "ab", (True, True)), ("some y b at y", "aa", (False, False)), ("some x b at x", "ab", (True, True)),
            ("all y (x = y or a at y)", "aba", (False, True, False)), ("x = x", "aba", (True,) * 3), ("x < x", "aba", (False,) * 3),
            ("some x (a at x and some x b at x) and b at x", "ab", (False, True)), ("yes", "", ()),
        ):
            self.assertEqual(named_marks("ab", read_named("ab", text), row), wanted, (text, row))
        for text, row, places, wanted in (
            ("u < w", "aa", {"u": 0, "w": 1}, True), ("u < w", "aa", {"w": 0, "u": 1}, False), ("u < u", "aa", {"u": 1}, False),
            ("u = w", "aa", {"w": 1, "u": 1}, True), ("u = w", "aa", {"w": 0, "u": 1}, False), ("all u u = w", "a", {"w": 0}, True),
            ("all u u = w", "aa", {"w": 0}, False), ("yes", "", {}, True), ("no", "", {}, False),
            ("a at v or u = w", "bab", {"v": 1, "u": 0, "w": 2}, True), ("a at v or u = w", "bab", {"v": 2, "u": 0, "w": 2}, False),
        ):
            self.assertEqual(named_holds("ab", read_named("ab", text), row, places), wanted, (text, row, places))

    def test_the_empty_row(self):
        for text, wanted in (
            ("some x yes", False), ("all x no", True), ("some x a at x", False), ("all x a at x", True), ("not some y yes", True),
            ("all x (some y x < y)", True), ("some y all x x < y", False), ("all u some v u < v and not all w no", False),
            ("some x yes or all x no", True), ("not all x yes", False), ("all x no and yes", True), ("some x all y no", False),
        ):
            sheet = read_named("ab", text)
            self.assertEqual(named_holds("ab", sheet, "", {}), wanted, text)
            self.assertEqual(plainly.named_holds(sheet, "", len(sheet) - 1, {}), wanted)
            self.assertEqual(named_marks("ab", sheet, ""), ())
        self.assertEqual(named_marks("ab", read_named("ab", "a at x"), ""), ())

    def test_by_definition(self):
        source = chance(62)
        marks = 0
        for _ in range(200):
            names = source.choice(("xyz", "xy", "uvwz", "x"))
            sheet = random_sheet(source, "ab", plainly.NAMED_FORMS, source.randint(1, 8), names)
            last = len(sheet) - 1
            free = free_names("ab", sheet)[-1]
            for row in rows("ab", 3) + ["abba"]:
                for told in itertools.product(range(len(row)), repeat=len(free)):
                    places = dict(zip(free, told))
                    wanted = plainly.named_holds(sheet, row, last, places)
                    held = named_holds("ab", sheet, row, dict(reversed(list(places.items()))))
                    self.assertIs(held, wanted, (sheet, row, places))
                if free in ("", "x"):
                    marks += 1
                    wanted = tuple(plainly.named_holds(sheet, row, last, {"x": at}) for at in range(len(row)))
                    self.assertEqual(named_marks("ab", sheet, row), wanted)
                else:
                    with self.assertRaises(Free) as held:
                        named_marks("ab", sheet, row)
                    self.assertEqual(held.exception.name, min(set(free) - {"x"}))
        self.assertGreater(marks, 300)

    def test_many_parts_names_and_letters(self):
        begun = time.process_time()
        sheet = [("less", "u", "v"), ("less", "w", "x"), ("and", 0, 1)]
        while len(sheet) < 6000:
            k = len(sheet) - 1
            sheet.append(((("some", "uvwx"[k % 4], k), ("not", k), ("or", k, 0), ("all", "xwvu"[k % 4], k))[k % 4]))
        places = {name: 11 for name in free_names("ab", sheet)[-1]}
        self.assertIn(named_holds("ab", sheet, "ab" * 6, places), (True, False))
        deep = [("same", "u", "w")] + [("not", k) for k in range(5999)]
        self.assertIs(named_holds("ab", deep, "ab" * 6, {"u": 11, "w": 11}), False)
        self.assertIs(named_holds("ab", deep, "ab" * 6, {"u": 11, "w": 0}), True)
        self.assertLess(time.process_time() - begun, 30)
        # All four names differ for the first time in rows of four letters.
        text = "some u some v some w (x < u and u < v and v < w)"
        for many in range(13):
            told = named_marks("a", read_named("a", text), "a" * many)
            self.assertEqual(told, tuple(place + 3 < many for place in range(many)))

    def test_12_and_13_letters(self):
        sheet = (("letter", "b", "x"),)
        self.assertEqual(named_marks("ab", sheet, "ab" * 6), (False, True) * 6)
        self.assertIs(named_holds("ab", sheet, "ab" * 6, {"x": 11}), True)
        for many in (13, 14, 200):
            for function in (named_marks, lambda *told: named_holds(*told, "wrong")):
                with self.assertRaises(TooLong) as held:
                    function("ab", sheet, "a" * many)
                self.assertEqual(held.exception.number, many)
                with self.assertRaises(BadRow) as held:
                    function("ab", sheet, "a" * (many - 1) + "c")
                self.assertEqual(held.exception.at, many - 1)

    def test_wrong_places(self):
        sheet = (("less", "y", "x"),)
        for thing in (
            {}, {"x": 0}, {"y": 0}, {"x": 0, "y": 0, "z": 0}, {"x": 0, "z": 0}, {"x": 0, "y": 3}, {"x": -1, "y": 0},
            {"x": True, "y": 0}, {"x": 0, "y": False}, {"x": "0", "y": 0}, {"x": 0, "y": None}, {"x": 0, "yx": 0}, {"x": 0, 0: 0},
            {"x": 0, "": 0}, {"x": [0], "y": 0}, None, 0, (0, 0), [("x", 0), ("y", 0)], "xy", {"x", "y"}, {"x": 1.0, "y": 0},
        ):
            before = copy.deepcopy(thing)
            with self.assertRaises(BadPlaces) as held:
                named_holds("ab", sheet, "aba", thing)
            self.assertIs(held.exception.thing, thing)
            self.assertEqual(thing, before)
        for row, thing in (("", {"x": 0, "y": 0}), ("", {}), ("a", {"x": 0, "y": 1})):
            with self.assertRaises(BadPlaces):
                named_holds("ab", sheet, row, thing)
        # Names that are bound, or stand in other parts alone, have no place.
        for sheet in ((("less", "x", "y"), ("some", "x", 0), ("all", "y", 1)), (("less", "x", "y"), YES)):
            for thing in ({"x": 0}, {"y": 0}, {"x": 0, "y": 0}, ()):
                with self.assertRaises(BadPlaces):
                    named_holds("ab", sheet, "ab", thing)
            self.assertIn(named_holds("ab", sheet, "ab", {}), (True, False))

    def test_free(self):
        for sheet, name in (
            ((("less", "x", "y"),), "y"), ((("less", "z", "u"),), "u"), ((("letter", "a", "w"), ("some", "x", 0)), "w"),
        ):
            for row in ("ab", "c", None, "a" * 13):
                with self.assertRaises(Free) as held:
                    named_marks("ab", sheet, row)
                self.assertEqual(held.exception.name, name)
        self.assertEqual(named_marks("ab", (("less", "x", "y"), ("some", "y", 0)), "ab"), (True, False))
        six = (("less", "u", "v"), ("less", "w", "x"), ("less", "y", "z"))
        for function in (named_marks, lambda *told: named_holds(*told, None)):
            with self.assertRaises(TooMany) as held:
                function("ab", six, None)
            self.assertEqual(held.exception.word, "name")


class Sets(unittest.TestCase):
    def test_by_hand(self):
        for text, good, bad in (
            ("none", (), ("", "a", "ab")), ("empty", ("",), ("a", "b", "ab")), ("a", ("a",), ("", "b", "aa")),
            ("not none", ("", "a", "bab"), ()), ("a then b", ("ab",), ("", "a", "b", "ba", "abb")),
            ("not none then a then not (not none then b then not none)", ("a", "bba", "abaa"), ("", "b", "ab", "aab")),
            ("a or empty", ("", "a"), ("aa", "b")), ("not a and not b", ("", "aa", "ab"), ("a", "b")),
            ("not (a then a)", ("", "a", "aaa"), ("aa",)), ("not empty then not empty", ("ab", "aba"), ("", "a")),
        ):
            for row in good:
                self.assertIs(set_has("ab", read_set("ab", text), row), True, (text, row))
            for row in bad:
                self.assertIs(set_has("ab", read_set("ab", text), row), False, (text, row))

    def test_by_definition(self):
        source = chance(63)
        for _ in range(200):
            sheet = random_sheet(source, "ab", plainly.SET_FORMS, source.randint(1, 9))
            last = len(sheet) - 1
            for row in rows("ab", 3) + ["abba", "babab"]:
                self.assertIs(set_has("ab", sheet, row), set_holds(sheet, row, last), (sheet, row))

    def test_cuts_by_definition(self):
        source = chance(64)
        for _ in range(150):
            sheet = random_sheet(source, "ab", plainly.SET_FORMS, source.randint(1, 8))
            parts = range(len(sheet))
            cuts = tuple(
                (source.choice(parts), source.choice("ab"), source.choice(parts)) for _ in range(source.randint(0, 4))
            )
            for row in rows("ab", 3) + ["abba", "babab"]:
                told = cut_marks("ab", sheet, cuts, row)
                self.assertEqual(told, tuple(cut_holds(sheet, cuts, row, place) for place in range(len(row))))
                self.assertTrue(all(mark is True or mark is False for mark in told))

    def test_cuts_by_hand(self):
        sheet = read_set("ab", "not none then empty")
        self.assertEqual(sheet, (NONE, ("not", 0), ("empty",), ("then", 1, 2)))
        self.assertEqual(cut_marks("ab", sheet, (), "abab"), (False,) * 4)
        self.assertEqual(cut_marks("ab", sheet, ((1, "b", 1),), "abab"), (False, True) * 2)
        self.assertEqual(cut_marks("ab", sheet, ((1, "b", 2), (2, "a", 3)), "abab"), (True, False, False, True))
        self.assertEqual(cut_marks("ab", sheet, ((2, "b", 2),), "b"), (True,))
        self.assertEqual(cut_marks("ab", sheet, ((2, "b", 2),), "bb"), (False, False))
        self.assertEqual(cut_marks("ab", sheet, ((1, "b", 1),) * 400, ""), ())

    def test_long_rows_and_sheets(self):
        row = "ab" * 100
        self.assertIs(set_has("ab", read_set("ab", "not none then (b then a) then not none"), row), True)
        self.assertIs(set_has("ab", read_set("ab", "not none then (b then b) then not none"), row), False)
        powers = [("letter", "a")] + [("then", k, 0) for k in range(199)]
        self.assertIs(set_has("ab", powers, "a" * 200), True)
        self.assertIs(set_has("ab", powers, "a" * 199), False)
        doubled = [("letter", "a"), ("letter", "b"), ("or", 0, 1)] + [("then", k, k) for k in range(2, 9)]
        self.assertEqual([many for many in range(201) if set_has("ab", doubled, row[:many])], [128])
        powers = [("letter", "a")] + [("then", k, 0) for k in range(5999)]
        self.assertIs(set_has("ab", powers, row), False)
        nots = [NONE] + [("not", k) for k in range(5999)]
        self.assertIs(set_has("ab", nots, row), True)
        begun = time.process_time()
        both = [("letter", "a"), ("letter", "b")] + [
            (("then", k, k - 1), ("not", k), ("then", k - 1, k), ("or", k, 0))[k % 4] for k in range(1, 5999)
        ]
        self.assertEqual(len(both), 6000)
        self.assertIn(set_has("ab", both, row), (True, False))
        self.assertEqual(len(cut_marks("ab", both, [(5999, "a", k) for k in range(400)], row)), 200)
        self.assertLess(time.process_time() - begun, 30)


class Errors(unittest.TestCase):
    def test_alphabets_then_sheets_then_rows(self):
        for function, part in BY_ROW:
            for thing in NO_ALPHABETS:
                with self.assertRaises(BadAlphabet) as held:
                    function(thing, None, None)
                self.assertIs(held.exception.thing, thing)
            for sheet, number in (((), -1), (None, -1), ((part, ("not", 1)), 1), ((part,) * 6001, -1)):
                with self.assertRaises(BadSheet) as held:
                    function("ab", sheet, None)
                self.assertEqual(held.exception.number, number)
            for row, at in ((None, -1), ("c", 0), ("abAb", 2), ("a" * 201, -1), (("a",), -1), (0, -1), (b"a", -1)):
                with self.assertRaises(BadRow) as held:
                    function("ab", (part,), row)
                self.assertEqual(held.exception.at, at)

    def test_cuts_stand_between_the_sheet_and_the_row(self):
        for cuts, number in ((None, -1), (((0, "a", 0), (0, "a", 1)), 1), (((0, "a", 0),) * 401, -1)):
            with self.assertRaises(BadCut) as held:
                cut_marks("ab", (NONE,), cuts, None)
            self.assertEqual(held.exception.number, number)

    def test_200_and_201_letters(self):
        for function, part in BY_ROW[:1] + BY_ROW[3:]:
            told = function("ab", (part,), "a" * 200)
            self.assertTrue(told is False or len(told) == 200)
            with self.assertRaises(BadRow) as held:
                function("ab", (part,), "a" * 201)
            self.assertEqual(held.exception.at, -1)

    def test_lists_and_names(self):
        tense = as_lists(read_tense("ab", "a until (b or a)"))
        named = as_lists(read_named("ab", "some y (x < y and b at y)"))
        sets = as_lists(read_set("ab", "a then not none"))
        cuts = [[1, "a", 2]]
        before = copy.deepcopy((tense, named, sets, cuts))
        places = {"x": 0}
        self.assertEqual(tense_marks(row="aab", sheet=tense, alphabet="ab"), (True, True, False))
        self.assertEqual(named_marks(row="aab", sheet=named, alphabet="ab"), (True, True, False))
        self.assertIs(named_holds(places=places, row="aab", sheet=named, alphabet="ab"), True)
        self.assertIs(set_has(row="aab", sheet=sets, alphabet="ab"), True)
        self.assertEqual(cut_marks(row="aab", cuts=cuts, sheet=sets, alphabet="ab"), (False, False, False))
        self.assertEqual((tense, named, sets, cuts), before)
        self.assertEqual(places, {"x": 0})


if __name__ == "__main__":
    unittest.main()
