"""The derivation of a set sheet ([21] with [18])."""

import copy
import unittest

from saidhere.errors import BadAlphabet, BadSheet, TooMany
from saidhere.flagmachines import explored
from saidhere.flags import Reader
from saidhere.setsin import derive_sets
from saidhere.settext import read_set
from saidhere.subsets import MOST_TESTS, Subsets, tests_of
from tests.plainly import SET_FORMS, as_lists, chance, least_flag_reader, random_sheet, rows, set_holds
from tests.test_plain import NO_ALPHABETS

ALL_FORMS = (
    ("none",), ("empty",), ("letter", "a"), ("not", 0), ("then", 3, 2), ("or", 1, 4), ("and", 5, 3), ("letter", "b"), ("then", 6, 7),
)
WRONG_PARTS = [
    (), ("none", 0), ("empty", "a"), ("yes",), "none", None, 0, True, ("letter",), ("letter", "c"), ("letter", "a", "x"), ("letter", 0),
    ("not",), ("not", 2), ("not", -1), ("not", True), ("and", 0), ("and", 0, 2), ("or", False, 0), ("or", 0, 0, 0), ("then", 0),
    ("then", 0, 2), ("then", True, 0), ("next", 0), ("some", "x", 0), {"none"}, b"none", ("then", 0, 10 ** 59),
]


def word(row):
    """A set sheet with one row alone, and its parts."""
    sheet = [("letter", row[0])]
    last = 0
    for letter in row[1:]:
        if ("letter", letter) not in sheet:
            sheet.append(("letter", letter))
        sheet.append(("then", last, sheet.index(("letter", letter))))
        last = len(sheet) - 1
    return tuple(sheet)


class DeriveSets(unittest.TestCase):
    def test_single_parts(self):
        told = derive_sets("ab", (("none",), ("empty",), ("letter", "b"), ("not", 0)))
        self.assertIsInstance(told, tuple)
        self.assertEqual(told[0], Reader("ab", "", ((0, 0),), ()))
        self.assertEqual(told[1], Reader("ab", "", ((1, 1), (1, 1)), (0,)))
        self.assertEqual(told[2], Reader("ab", "", ((1, 2), (1, 1), (1, 1)), (2,)))
        self.assertEqual(told[3], Reader("ab", "", ((0, 0),), (0,)))

    def test_by_definition(self):
        source = chance(360)
        for _ in range(150):
            alphabet = source.choice(("a", "ab", "bdh"))
            sheet = random_sheet(source, alphabet, SET_FORMS, source.randint(1, 10))
            told = derive_sets(alphabet, sheet)
            self.assertEqual(len(told), len(sheet))
            for number, reader in enumerate(told):
                self.assertEqual((reader.alphabet, reader.names), (alphabet, ""))
                for row in rows(alphabet, 5 if len(alphabet) < 3 else 4):
                    self.assertIs(reader(row), set_holds(sheet, row, number), (sheet, number, row))

    def test_least_by_definition(self):
        source = chance(361)
        done = 0
        while done < 40:
            sheet = random_sheet(source, "ab", SET_FORMS, source.randint(2, 9))
            reader = derive_sets("ab", sheet)[-1]
            if len(reader) > 5:
                continue
            done += 1

            def telling(flagged):
                return set_holds(sheet, "".join(letter for letter, _ in flagged), len(sheet) - 1)

            self.assertEqual((reader.moves, reader.accepted), least_flag_reader("ab", "", telling, 4, 4))

    def test_the_empty_row_in_then(self):
        sheet = (("empty",), ("letter", "a"), ("then", 0, 1), ("then", 1, 0), ("then", 0, 0), ("or", 0, 1), ("then", 5, 5), ("none",),
                 ("then", 7, 5), ("then", 5, 7), ("not", 7), ("then", 10, 10))
        told = derive_sets("ab", sheet)
        self.assertEqual((told[2], told[3], told[4]), (told[1], told[1], told[0]))
        self.assertEqual([row for row in rows("ab", 4) if told[6](row)], ["", "a", "aa"])
        self.assertEqual((told[8], told[9], told[11]), (told[7], told[7], told[10]))

    def test_sixty_standings(self):
        for row in ("a", "ab", "a" * 58, "ab" * 29):
            told = derive_sets("ab", word(row))
            self.assertEqual(len(told[-1]), len(row) + 2)
            for other in (row, row[1:], row + "a", row[:-1], "", row[:-1] + ("b" if row[-1] == "a" else "a")):
                self.assertIs(told[-1](other), other == row)
        for row in ("a" * 59, "ab" * 30, "a" * 100):
            with self.assertRaises(TooMany) as held:
                derive_sets("ab", word(row))
            self.assertEqual(held.exception.word, "standing")

    def test_too_many_on_the_way(self):
        # Each part has its reader, whatever comes of it.
        with self.assertRaises(TooMany):
            derive_sets("a", word("a" * 59) + (("none",),))
        # The letter a stands so many places ahead of the end.
        for many, good in ((2, True), (4, True), (5, False), (9, False)):
            text = "not none then a" + " then (a or b)" * many
            if good:
                reader = derive_sets("ab", read_set("ab", text))[-1]
                self.assertEqual(len(reader), 2 ** (many + 1))
                for row in rows("ab", 7):
                    self.assertIs(reader(row), row[-many - 1:-many] == "a" and len(row) > many)
            else:
                with self.assertRaises(TooMany):
                    derive_sets("ab", read_set("ab", text))

    def test_many_rows_behind_that_part(self):
        # The tenth letter is an a: few standings, but which rows behind lead to it are very many.
        text = "(" + "(a or b) then " * 9 + "a then not none) then b"
        reader = derive_sets("ab", read_set("ab", text))[-1]
        source = chance(362)
        good = 0
        for _ in range(600):
            row = "".join(source.choice("ab") for _ in range(source.randint(8, 16)))
            wanted = len(row) > 10 and row[9] == "a" and row[-1] == "b"
            good += wanted
            self.assertIs(reader(row), wanted)
        self.assertGreater(good, 50)
        self.assertEqual(len(reader), 13)

    def test_lists_and_long_sheets(self):
        passed = as_lists(ALL_FORMS)
        before = copy.deepcopy(passed)
        self.assertEqual(derive_sets(sheet=passed, alphabet="ab"), derive_sets("ab", ALL_FORMS))
        self.assertEqual(passed, before)
        sheet = (("letter", "h"),) + tuple(("not", k) for k in range(5999))
        told = derive_sets("abcdefgh", sheet)
        self.assertEqual((len(told), told[5998]), (6000, told[0]))

    def test_errors(self):
        for thing in NO_ALPHABETS:
            with self.assertRaises(BadAlphabet) as held:
                derive_sets(thing, ())
            self.assertIs(held.exception.thing, thing)
        for part in WRONG_PARTS:
            with self.assertRaises(BadSheet) as held:
                derive_sets("ab", (("none",), ("letter", "a"), part, ()))
            self.assertEqual(held.exception.number, 2)
        for sheet in ((), None, "none", {}, (("none",),) * 6001):
            with self.assertRaises(BadSheet) as held:
                derive_sets("ab", sheet)
            self.assertEqual(held.exception.number, -1)


class SetsOfStandings(unittest.TestCase):
    def accepted(self, steps, goal, begin, letters):
        for letter in letters:
            after = 0
            for standing, followers in enumerate(steps):
                if begin >> standing & 1:
                    after |= followers[letter]
            begin = after
        return begin & goal != 0

    def walk(self, machine, letters):
        at = 0
        for letter in letters:
            at = machine[0][at][letter]
        return machine[1][at]

    def test_by_definition(self):
        source = chance(363)
        for _ in range(80):
            many = source.randint(1, 7)
            share = source.choice((0.1, 0.25, 0.4))
            steps = [[sum(1 << k for k in range(many) if source.random() < share) for _ in "ab"] for _ in range(many)]
            goal = source.randrange(1 << many)
            begin = source.randrange(1 << many)
            machine = explored(Subsets(steps, begin, goal, 1000))
            for row in rows("ab", 7):
                letters = ["ab".index(letter) for letter in row]
                self.assertIs(self.walk(machine, letters), self.accepted(steps, goal, begin, letters))

    def test_not_all_tests(self):
        # The letter with the number 0 a dozen places behind the first one: few sets ahead, many behind.
        many = 14
        steps = [[1 << (k + 1), 1 << (k + 1)] for k in range(12)] + [[1 << 13, 0], [1 << 13, 1 << 13]]
        tests, exact = tests_of(steps, 1 << 13)
        self.assertIs(exact, False)
        self.assertGreater(len(tests), MOST_TESTS)
        machine = explored(Subsets(steps, 1, 1 << 13, 60))
        # Read from the end on it is the other way round.
        turned = [[sum(1 << s for s in range(many) if steps[s][letter] >> k & 1) for letter in (0, 1)] for k in range(many)]
        self.assertIs(tests_of(turned, 1)[1], True)
        # Both side by side.
        both = turned + [[mask << many for mask in masks] for masks in steps]
        self.assertIs(tests_of(both, 1 | 1 << (many + 13))[1], False)
        for wide, begin, goal in ((turned, 1 << 13, 1), (both, 1 << 13 | 1 << many, 1 | 1 << (many + 13))):
            with self.assertRaises(TooMany) as held:
                explored(Subsets(wide, begin, goal, 60))
            self.assertEqual(held.exception.word, "standing")
        source = chance(364)
        for _ in range(200):
            letters = [source.randrange(2) for _ in range(source.randint(10, 18))]
            self.assertIs(self.walk(machine, letters), self.accepted(steps, 1 << 13, 1, letters))


if __name__ == "__main__":
    unittest.main()
