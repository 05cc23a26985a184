"""How derivations of set sheets are judged ([21] with [17], [18])."""

import copy
import unittest

from saidhere.errors import BadAlphabet, BadSheet
from saidhere.flags import Reader
from saidhere.pairs import Pair
from saidhere.setsin import derive_sets
from saidhere.setsjudge import first_wrong_sets
from tests.plainly import SET_FORMS, as_lists, chance, random_sheet, rows, set_holds
from tests.test_namedin import changed, copied
from tests.test_plain import NO_ALPHABETS
from tests.test_setsin import ALL_FORMS, WRONG_PARTS, word


class FirstWrongSets(unittest.TestCase):
    def test_right_and_changed_ones(self):
        source = chance(400)
        wrong = {}
        for _ in range(300):
            alphabet = source.choice(("a", "ab"))
            sheet = random_sheet(source, alphabet, SET_FORMS, source.randint(2, 8))
            told = list(derive_sets(alphabet, sheet))
            self.assertEqual(first_wrong_sets(alphabet, sheet, told), len(sheet))
            bigger = [copied(source, reader) for reader in told]
            self.assertEqual(first_wrong_sets(alphabet, sheet, bigger), len(sheet))
            at = source.randrange(len(sheet))
            reader = changed(source, bigger[at])
            if len(told[at]) > 5:
                continue
            right = all(reader(row) == set_holds(sheet, row, at) for row in rows(alphabet, 8 if alphabet == "ab" else 14))
            bigger[at] = reader
            self.assertEqual(first_wrong_sets(alphabet, sheet, bigger), len(sheet) if right else at)
            if not right:
                wrong[sheet[at][0]] = wrong.get(sheet[at][0], 0) + 1
        for name, _ in SET_FORMS:
            self.assertGreater(wrong.get(name, 0), 0, name)

    def test_steps_that_are_nearly_right(self):
        all_rows = Reader("ab", "", ((0, 0),), (0,))
        no_row = Reader("ab", "", ((0, 0),), ())
        empty = Reader("ab", "", ((1, 1), (1, 1)), (0,))
        not_empty = Reader("ab", "", ((1, 1), (1, 1)), (1,))
        letter = Reader("ab", "", ((1, 2), (2, 2), (2, 2)), (1,))
        either = Reader("ab", "", ((1, 1), (2, 2), (2, 2)), (1,))
        more = Reader("ab", "", ((1, 2), (2, 2), (2, 2)), (0, 1))
        for sheet, right, wrong in (
            ((("none",),), no_row, (all_rows, empty, letter)), ((("empty",),), empty, (no_row, all_rows, not_empty, more)),
            ((("letter", "a"),), letter, (either, more, no_row, not_empty)),
        ):
            self.assertEqual(first_wrong_sets("ab", sheet, (right,)), 1)
            for thing in wrong:
                self.assertEqual(first_wrong_sets("ab", sheet, (thing,)), 0)
        sheet = (("letter", "a"), ("not", 0), ("then", 0, 1))
        told = derive_sets("ab", sheet)
        self.assertEqual(first_wrong_sets("ab", sheet, told[:2] + derive_sets("ab", sheet[:2] + (("then", 1, 0),))[2:]), 2)

    def test_readers_with_names(self):
        sheet = (("letter", "a"), ("not", 0))
        told = derive_sets("ab", sheet)
        named = Reader("ab", "x", tuple(tuple(s for s in move for _ in range(2)) for move in told[1].moves), told[1].accepted)
        self.assertEqual(first_wrong_sets("ab", sheet, (told[0], named)), 1)

    def test_exchanged_ones(self):
        source = chance(401)
        for _ in range(60):
            sheet = random_sheet(source, "ab", SET_FORMS, 6)
            told = list(derive_sets("ab", sheet))
            one, other = sorted(source.sample(range(6), 2))
            alike = told[one] == told[other]
            told[one], told[other] = told[other], told[one]
            self.assertEqual(first_wrong_sets("ab", sheet, told), 6 if alike else one)

    def test_other_things(self):
        sheet = (("letter", "a"), ("not", 0))
        told = derive_sets("ab", sheet)
        for thing in (None, 0, True, "ab", {}, {0: told[0], 1: told[1]}, told[0], (), told[:1], told + told[:1], [], 1.5):
            self.assertEqual(first_wrong_sets("ab", sheet, thing), -1)
        for thing in (None, 0, (), told, Pair.of_letters("ab", "a"), derive_sets("abc", sheet)[1], derive_sets("ac", sheet)[1],
                      (told[1].names, told[1].moves, told[1].accepted)):
            self.assertEqual(first_wrong_sets("ab", sheet, (told[0], thing)), 1)
            self.assertEqual(first_wrong_sets(readers=[thing, told[1]], sheet=sheet, alphabet="ab"), 0)
        self.assertEqual(first_wrong_sets("abc", sheet, told), 0)

    def test_never_too_many(self):
        sheet = word("a" * 60)
        told = derive_sets("a", sheet[:58])
        self.assertEqual(len(told[-1]), 60)
        self.assertEqual(first_wrong_sets("a", sheet, told + told[:2]), 58)
        self.assertEqual(first_wrong_sets("a", sheet, told + (told[-1], told[-1])), 58)
        ring = Reader("a", "", tuple(((k + 1) % 60,) for k in range(60)), (59,))
        self.assertEqual(first_wrong_sets("a", sheet, told + (ring, ring)), 58)

    def test_lists_and_long_sheets(self):
        sheet = as_lists(ALL_FORMS)
        told = list(derive_sets("ab", sheet))
        before = copy.deepcopy(sheet), list(told)
        self.assertEqual(first_wrong_sets("ab", sheet, told), len(sheet))
        self.assertEqual((sheet, told), before)
        sheet = (("letter", "h"),) + tuple(("not", k) for k in range(5999))
        self.assertEqual(first_wrong_sets("abcdefgh", sheet, derive_sets("abcdefgh", sheet)), 6000)

    def test_errors(self):
        for thing in NO_ALPHABETS:
            with self.assertRaises(BadAlphabet) as held:
                first_wrong_sets(thing, (), None)
            self.assertIs(held.exception.thing, thing)
        for part in WRONG_PARTS:
            with self.assertRaises(BadSheet) as held:
                first_wrong_sets("ab", (("none",), ("letter", "a"), part, ()), None)
            self.assertEqual(held.exception.number, 2)
        for sheet in ((), None, "none", {}, (("none",),) * 6001):
            with self.assertRaises(BadSheet) as held:
                first_wrong_sets("ab", sheet, ())
            self.assertEqual(held.exception.number, -1)


if __name__ == "__main__":
    unittest.main()
