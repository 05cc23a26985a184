"""Named sheets ([4])."""

import copy
import unittest

from saidhere.errors import BadAlphabet, BadSheet, TooMany
from saidhere.named import free_names, named_sheet, names_used
from tests.plainly import NAMED_FORMS, as_lists, chance, is_tuples, named_holds, random_sheet, rows

FUNCTIONS = (named_sheet, free_names, names_used)
YES = ("yes",)
ALL_FORMS = (
    ("yes",), ("no",), ("letter", "a", "z"), ("less", "x", "y"), ("same", "y", "y"), ("not", 2), ("and", 3, 5),
    ("or", 0, 1), ("some", "z", 6), ("all", "x", 8), ("all", "u", 9), ("some", "y", 9), ("less", "y", "x"),
)
WRONG_PARTS = [
    (), [], ("yes", 0), ("no", "x"), ("maybe",), "yes", None, 0, True, ("letter", "a"), ("letter", "a", "t"),
    ("letter", "a", "a"), ("letter", "c", "x"), ("letter", "x", "a"), ("letter", "ab", "x"), ("letter", "a", "xy"),
    ("letter", "", "x"), ("letter", "a", ""), ("letter", "a", 0), ("letter", 0, "x"), ("letter", "a", "x", "y"),
    ("letter", ["a"], "x"), ("letter", "a", ["x"]), ("less", "x"), ("less", "x", "t"), ("less", "a", "x"),
    ("less", 0, "x"), ("less", "x", "y", "z"), ("less", "xy", "z"), ("same", "x"), ("same", "x", None),
    ("same", "x", ("x",)), ("same", "X", "x"), ("not",), ("not", 2), ("not", -1), ("not", True), ("not", "x"),
    ("not", 0, 1), ("and", 0), ("and", 0, 2), ("and", False, 0), ("or", 0, True), ("or", 2, 0), ("or", 0, 0, 0),
    ("some", "x"), ("some", 0, "x"), ("some", "x", 2), ("some", "x", True), ("some", "a", 0), ("some", "xy", 0),
    ("some", "", 0), ("some", "x", 0, 0), ("some", ["x"], 0), ("all", "x"), ("all", "x", -1), ("all", 0, 0),
    ("all", "x", None), ("next", 0), ("until", 0, 1), ("then", 0, 1), ("mark", 0), (["yes"],), (("no",),), (None,),
    {"yes"}, b"no", ("all", "x", 10 ** 59),
]


class Sheets(unittest.TestCase):
    def test_all_forms(self):
        self.assertEqual(named_sheet("ab", ALL_FORMS), ALL_FORMS)

    def test_lists_become_tuples(self):
        passed = as_lists(ALL_FORMS)
        before = copy.deepcopy(passed)
        told = [function("ab", passed) for function in FUNCTIONS]
        self.assertEqual(told, [function("ab", ALL_FORMS) for function in FUNCTIONS])
        self.assertEqual(passed, before)
        self.assertTrue(is_tuples(told[0]))
        self.assertTrue(is_tuples(told[1]))
        self.assertIsInstance(told[2], str)
        passed[2][1] = "b"
        passed.clear()
        self.assertEqual(told[0], ALL_FORMS)

    def test_by_names(self):
        for function in FUNCTIONS:
            self.assertEqual(function(sheet=ALL_FORMS, alphabet="ab"), function("ab", ALL_FORMS))

    def test_number_of_parts(self):
        whole = (("less", "x", "y"),) + tuple(("not", k) for k in range(5999))
        self.assertEqual(named_sheet("a", whole), whole)
        self.assertEqual(free_names("a", list(whole)), ("xy",) * 6000)
        for function in FUNCTIONS:
            for sheet in (whole + (YES,), list(whole) + ["wrong"], (), []):
                with self.assertRaises(BadSheet) as held:
                    function("a", sheet)
                self.assertEqual(held.exception.number, -1)

    def test_no_sheets(self):
        for thing in (None, "yes", "", 0, True, {0: YES}, {YES}, b"a", 1.5):
            for function in FUNCTIONS:
                with self.assertRaises(BadSheet) as held:
                    function("ab", thing)
                self.assertEqual(held.exception.number, -1)

    def test_wrong_parts(self):
        for part in WRONG_PARTS:
            for function in FUNCTIONS:
                with self.assertRaises(BadSheet) as held:
                    function("ab", (YES, ("less", "x", "y"), part, YES))
                self.assertEqual(held.exception.number, 2, part)

    def test_names_and_letters(self):
        for number in range(32, 127):
            for made, good in (
                (lambda name: ("same", name, "x"), "uvwxyz"), (lambda name: ("less", "x", name), "uvwxyz"),
                (lambda name: ("some", name, 0), "uvwxyz"), (lambda name: ("all", name, 0), "uvwxyz"),
                (lambda name: ("letter", "a", name), "uvwxyz"), (lambda letter: ("letter", letter, "x"), "abcdefg"),
            ):
                sheet = (YES, made(chr(number)))
                if chr(number) in list(good):
                    self.assertEqual(named_sheet("abcdefg", sheet), sheet)
                else:
                    with self.assertRaises(BadSheet) as held:
                        named_sheet("abcdefg", sheet)
                    self.assertEqual(held.exception.number, 1)

    def test_number_of_names(self):
        four = (("less", "u", "v"), ("some", "w", 0), ("letter", "a", "z"))
        for function in FUNCTIONS:
            function("ab", four + (("same", "z", "u"),))
            for more in (
                ("some", "x", 0), ("all", "y", 0), ("letter", "b", "x"), ("less", "x", "u"), ("same", "v", "y"),
            ):
                with self.assertRaises(TooMany) as held:
                    function("ab", four + (more, YES))
                self.assertEqual(held.exception.word, "name")
            with self.assertRaises(TooMany):
                function("ab", (("less", "u", "v"), ("less", "w", "x"), ("less", "y", "z")))

    def test_order_of_errors(self):
        six = [("less", "u", "v"), ("less", "w", "x"), ("less", "y", "z")]
        for function in FUNCTIONS:
            with self.assertRaises(BadAlphabet) as held:
                function("b" + "a", six + ["wrong"])
            self.assertEqual(held.exception.thing, "ba")
            with self.assertRaises(BadSheet) as held:
                function("ab", six + ["wrong", ("not", 9)])
            self.assertEqual(held.exception.number, 3)


class Names(unittest.TestCase):
    def test_told_by_hand(self):
        self.assertEqual(free_names("ab", ALL_FORMS), (
            "", "", "z", "xy", "y", "z", "xyz", "", "xy", "y", "y", "", "xy",
        ))
        self.assertEqual(names_used("ab", ALL_FORMS), "uxyz")
        self.assertEqual(names_used("ab", (YES, ("not", 0))), "")
        self.assertEqual(free_names("ab", (("less", "z", "u"), ("letter", "a", "w"), ("or", 1, 0))), ("uz", "w", "uwz"))

    def test_a_name_that_is_bound_and_free(self):
        sheet = (("letter", "a", "x"), ("some", "x", 0), ("and", 1, 0), ("all", "y", 2))
        self.assertEqual(free_names("ab", sheet), ("x", "", "x", "x"))
        self.assertEqual(names_used("ab", sheet), "xy")

    def test_only_the_free_names_matter(self):
        source = chance(4)
        for _ in range(80):
            sheet = random_sheet(source, "ab", NAMED_FORMS, 6)
            free = free_names("ab", sheet)
            for row in rows("ab", 3, 1):
                for number in range(len(sheet)):
                    places = [
                        {"x": x, "y": y, "z": z}
                        for x in range(len(row)) for y in range(len(row)) for z in range(len(row))
                    ]
                    told = {}
                    for where in places:
                        key = tuple(where[name] for name in free[number])
                        told.setdefault(key, set()).add(named_holds(sheet, row, number, where))
                    self.assertTrue(all(len(worths) == 1 for worths in told.values()))


if __name__ == "__main__":
    unittest.main()
