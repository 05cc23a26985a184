"""Tense sheets and cuts of steady marks ([25]), and named sheets of tense sheets and of cuts ([26], [27])."""

import copy
import unittest
from unittest import mock

from saidhere.cutsout import cuts_of
from saidhere.errors import BadAlphabet, BadCut, BadSheet, TooMany, Unsayable
from saidhere.freepairs import pair_of_cuts, pair_of_named
from saidhere.leastpair import least
from saidhere.named import free_names, named_sheet, names_used
from saidhere.namedcuts import named_from_cuts
from saidhere.namedin import derive_named
from saidhere.namedjudge import first_wrong_named
from saidhere.namedout import named_from_tense
from saidhere.pairs import Pair
from saidhere.plainsets import cut_list, set_sheet
from saidhere.setsin import derive_sets
from saidhere.setsjudge import first_wrong_sets
from saidhere.splitting import split_of
from saidhere.tense import tense_sheet
from saidhere.tensein import derive_tense
from saidhere.tensetext import read_tense, write_tense
from saidhere.tensejudge import first_wrong_tense
from saidhere.tenseout import tense_of
from saidhere.tidying import tidy_tense
from saidhere.turnings import turning
from tests.plainly import SET_FORMS, TENSE_FORMS, as_lists, chance, cut_holds, is_tuples, led, named_holds, pair_marks, random_pair_parts
from tests.plainly import random_sheet, rows, set_holds, steady_pair_parts, tense_holds
from tests.test_plain import NO_ALPHABETS
from tests.test_plainsets import WRONG_CUTS, WRONG_PARTS as WRONG_SETS
from tests.test_splitting import NO_MARK, awkward_parts
from tests.test_tense import WRONG_PARTS
from tests.test_tensein import chain
from tests.test_turnings import EVEN, FIRST, ring_pair


def tense_row(sheet, row):
    return tuple(tense_holds(sheet, row, len(sheet) - 1, place) for place in range(len(row)))


def named_row(sheet, row):
    return tuple(named_holds(sheet, row, len(sheet) - 1, {"x": place}) for place in range(len(row)))


def cuts_row(sheet, cuts, row):
    return tuple(cut_holds(sheet, cuts, row, place) for place in range(len(row)))


class TenseOf(unittest.TestCase):
    def check(self, pair, most, back=True):
        sheet = tense_of(pair)
        self.assertEqual(tense_sheet(pair.alphabet, sheet), sheet)
        self.assertTrue(is_tuples(sheet))
        for row in rows(pair.alphabet, most):
            self.assertEqual(tense_row(sheet, row), pair_marks(pair, row))
        if back:
            pairs = derive_tense(pair.alphabet, sheet)
            self.assertEqual(pairs[-1], least(pair))
            self.assertEqual(first_wrong_tense(pair.alphabet, sheet, pairs), len(sheet))
        return sheet

    def test_ordinary_ones(self):
        self.check(FIRST, 6)
        for letters in ("", "a", "b", "ab"):
            self.check(Pair.of_letters("ab", letters), 4)
        for letters in ("ach", "abcdefg", "abcdefgh"):
            self.check(Pair.of_letters("abcdefgh", letters), 2)
        sheet = (("letter", "a"), ("letter", "b"), ("until", 0, 1), ("since", 1, 2), ("or", 2, 3), ("next", 4))
        for pair in derive_tense("ab", sheet):
            self.check(pair, 5)

    def test_no_triples(self):
        for pair in (NO_MARK, Pair("a", ((0,), (1,)), ((0,),), ((1, "a", 0),))):
            sheet = self.check(pair, 4)
            self.assertEqual(sheet[-1], ("no",))

    def test_small_readers(self):
        source = chance(440)
        for alphabet, most in (("a", 7), ("ab", 5), ("bdh", 3)):
            for left in (1, 2, 3):
                for right in (1, 2, 3):
                    for _ in range(2):
                        self.check(Pair(*steady_pair_parts(source, alphabet, left, right)), most)

    def test_three_standings_and_letters(self):
        source = chance(441)
        for _ in range(6):
            sheet = self.check(Pair(*awkward_parts(source, "abc", 3, 3)), 3)
            self.assertLessEqual(len(sheet), 6000)
        for _ in range(6):
            self.check(Pair(*awkward_parts(source, "ab", 3, 3)), 5)

    def test_larger_readers(self):
        source = chance(442)
        for alphabet, left, right, most in (("ab", 5, 3, 4), ("abc", 4, 1, 3), ("abcdefgh", 2, 2, 2)):
            self.check(Pair(*awkward_parts(source, alphabet, left, right)), most)
        self.check(derive_tense("a", chain("next", 39))[-1], 9)

    def test_errors(self):
        source = chance(443)
        seen = []
        for _ in range(150):
            pair = Pair(*random_pair_parts(source, source.choice(("a", "ab", "bdh")), 4))
            turn = turning(pair)
            if turn is None:
                continue
            seen.append(turn.side)
            for call in (tense_of, cuts_of):
                with self.assertRaises(Unsayable) as held:
                    call(pair)
                told = held.exception
                self.assertEqual((told.side, told.standing, told.turn, told.count), (turn.side, turn.standing, turn.turn, turn.count))
        self.assertEqual(set(seen), {"left", "right"})
        for side in ("left", "right"):
            for call in (tense_of, cuts_of):
                with self.assertRaises(TooMany) as held:
                    call(ring_pair(side))
                self.assertEqual(held.exception.word, "map")
        with self.assertRaises(Unsayable):
            tense_of(pair=ring_pair("right") & EVEN)


class TooManyParts(unittest.TestCase):
    def test_readers_with_many_maps(self):
        # The reader has 298 maps, none of which turns.
        many = ((1, 1, 1), (2, 2, 2), (2, 2, 3), (2, 3, 5), (3, 4, 5), (4, 4, 6), (6, 5, 7), (7, 7, 7))
        pair = Pair("abc", many, ((0, 0, 0),), tuple((p, "abc"[p % 3], 0) for p in range(8)))
        for call in (tense_of, cuts_of):
            with self.assertRaises(TooMany) as held:
                call(pair)
            self.assertEqual(held.exception.word, "part")

    def test_the_number_of_parts(self):
        pair = Pair(*awkward_parts(chance(438), "ab", 3, 3))
        for call, module in ((tense_of, "tenseout"), (lambda pair: cuts_of(pair)[0], "cutsout")):
            many = len(call(pair))
            with mock.patch(f"saidhere.{module}.MOST_PARTS", many):
                self.assertEqual(len(call(pair)), many)
            with mock.patch(f"saidhere.{module}.MOST_PARTS", many - 1):
                with self.assertRaises(TooMany) as held:
                    call(pair)
            self.assertEqual(held.exception.word, "part")


class Short(unittest.TestCase):
    """How short sheets are is not promised, but that they are makes them good to read, and to be carried on."""

    def test_texts(self):
        for text, wanted in (
            ("a", "a"), ("no", "no"), ("yes", "yes"), ("a or b", "yes"), ("prev a and b", "prev a and b"), ("next yes", "next yes"),
            ("not next a", "not next a"), ("yes until b", None), ("a until b", None), ("not b since a", None),
        ):
            told = write_tense("ab", tense_of(derive_tense("ab", read_tense("ab", text))[-1]))
            if wanted is None:
                self.assertLessEqual(len(told), 3 * len(text), told)
            else:
                self.assertEqual(told, wanted)

    def test_sizes(self):
        source = chance(439)
        for alphabet, tense, sets in (("ab", 100, 60), ("abc", 250, 180)):
            for _ in range(3):
                pair = Pair(*awkward_parts(source, alphabet, 3, 3))
                self.assertLess(len(tense_of(pair)), tense)
                sheet, cuts = cuts_of(pair)
                self.assertLess(len(sheet), sets)
                needed = {number for i, a, j in cuts for number in (i, j)}
                for number in range(len(sheet) - 1, -1, -1):
                    self.assertIn(number, needed)
                    needed |= {thing for thing in sheet[number] if isinstance(thing, int)}
                readers = derive_sets(alphabet, sheet)
                self.assertEqual(len({(x.moves, x.accepted) for x in readers}), len(readers))


class CutsOf(unittest.TestCase):
    def check(self, pair, most):
        small = least(pair)
        told = cuts_of(pair)
        self.assertIsInstance(told, tuple)
        sheet, cuts = told
        self.assertTrue(is_tuples(told))
        self.assertEqual(set_sheet(pair.alphabet, sheet), sheet)
        self.assertEqual(cut_list(pair.alphabet, sheet, cuts), cuts)
        # One cut for each piece, in the same order.
        wanted = sorted({(p, a) for p, a, q in small.marked})
        self.assertEqual([a for i, a, j in cuts], [a for p, a in wanted])
        self.assertEqual([a for i, a, j in cuts], [a for i, a, j in split_of(pair)])
        for row in rows(pair.alphabet, most):
            p = led(pair.alphabet, small.left, row)
            q = led(pair.alphabet, small.right, reversed(row))
            for (standing, letter), (i, a, j) in zip(wanted, cuts):
                self.assertIs(set_holds(sheet, row, i), p == standing)
                self.assertIs(set_holds(sheet, row, j), (standing, letter, q) in small.marked)
            if len(row) < most:
                self.assertEqual(cuts_row(sheet, cuts, row), pair_marks(pair, row))
        readers = derive_sets(pair.alphabet, sheet)
        self.assertEqual(first_wrong_sets(pair.alphabet, sheet, readers), len(sheet))
        self.assertEqual(pair_of_cuts(pair.alphabet, sheet, cuts), small)
        return told

    def test_ordinary_ones(self):
        self.check(FIRST, 5)
        for letters in ("", "a", "b", "ab"):
            self.check(Pair.of_letters("ab", letters), 4)
        self.check(Pair.of_letters("abcdefgh", "ach"), 2)
        sheet = (("letter", "a"), ("letter", "b"), ("until", 0, 1), ("since", 1, 2), ("or", 2, 3), ("next", 4))
        for pair in derive_tense("ab", sheet):
            self.check(pair, 4)

    def test_no_triples(self):
        self.assertEqual(cuts_of(pair=NO_MARK)[1], ())
        self.check(NO_MARK, 3)

    def test_small_readers(self):
        source = chance(444)
        for alphabet, most in (("a", 6), ("ab", 4), ("bdh", 3)):
            for left in (1, 2, 3):
                for right in (1, 2, 3):
                    for _ in range(2):
                        self.check(Pair(*steady_pair_parts(source, alphabet, left, right)), most)

    def test_three_standings_and_letters(self):
        source = chance(445)
        for _ in range(4):
            sheet, cuts = self.check(Pair(*awkward_parts(source, "abc", 3, 3)), 3)
            self.assertLessEqual(len(sheet), 6000)
        for _ in range(4):
            self.check(Pair(*awkward_parts(source, "ab", 3, 3)), 4)

    def test_larger_readers(self):
        source = chance(446)
        for alphabet, left, right, most in (("ab", 4, 3, 3), ("abcdefgh", 2, 2, 2)):
            self.check(Pair(*awkward_parts(source, alphabet, left, right)), most)
        sheet, cuts = cuts_of(derive_tense("a", chain("prev", 39))[-1])
        self.assertEqual(len(cuts), 1)
        self.assertEqual(pair_of_cuts("a", sheet, cuts), derive_tense("a", chain("prev", 39))[-1])


class NamedFromTense(unittest.TestCase):
    def check(self, alphabet, sheet, most):
        told = named_from_tense(alphabet, sheet)
        self.assertEqual(named_sheet(alphabet, told), told)
        self.assertTrue(is_tuples(told))
        self.assertIn(free_names(alphabet, told)[-1], ("", "x"))
        self.assertTrue(set(names_used(alphabet, told)) <= set("xyz"))
        self.assertLessEqual(len(told), 60 * len(tidy_tense(alphabet, sheet)))
        for row in rows(alphabet, most):
            self.assertEqual(named_row(told, row), tense_row(sheet, row))
        return told

    def test_each_word(self):
        for word in ("next", "prev", "until", "since"):
            for inner in (("yes",), ("no",), ("letter", "b"), ("next", 0), ("prev", 0), ("until", 1, 0), ("since", 1, 0)):
                sheet = (("letter", "a"), ("letter", "b"), inner, ("not", 2))
                for last in ((word, 2), (word, 3)) if word in ("next", "prev") else ((word, 2, 3), (word, 3, 2), (word, 2, 2), (word, 0, 2)):
                    self.check("ab", sheet + (last,), 4)

    def test_by_definition(self):
        source = chance(447)
        for _ in range(100):
            alphabet = source.choice(("a", "ab", "bdh"))
            sheet = random_sheet(source, alphabet, TENSE_FORMS, source.randint(1, 7))
            told = self.check(alphabet, sheet, 4 if len(alphabet) < 3 else 3)
            self.assertEqual(pair_of_named(alphabet, told), derive_tense(alphabet, sheet)[-1])
            readers = derive_named(alphabet, told)
            self.assertEqual(first_wrong_named(alphabet, told, readers), len(told))

    def test_small_sheets(self):
        for part in (("yes",), ("no",), ("letter", "a")):
            told = self.check("ab", (part,), 3)
            self.assertLessEqual(len(told), 60)

    def test_a_hundred_parts(self):
        sheet = chain("next", 99)
        self.assertEqual(len(tidy_tense("a", sheet)), 100)
        told = named_from_tense("a", sheet)
        self.assertEqual(free_names("a", told)[-1], "x")
        self.assertLessEqual(len(told), 6000)
        with self.assertRaises(TooMany) as held:
            named_from_tense("a", chain("next", 100))
        self.assertEqual(held.exception.word, "part")
        with self.assertRaises(TooMany):
            named_from_tense("ab", chain("until", 150))

    def test_a_long_sheet_with_a_short_tidy_one(self):
        sheet = chain("next", 150) + (("letter", "b"), ("prev", 151))
        told = self.check("ab", sheet, 4)
        self.assertLessEqual(len(told), 120)
        # A part twice is one part.
        sheet = (("letter", "a"),) * 5990 + (("until", 5, 5989), ("since", 5990, 7))
        self.assertEqual(len(tidy_tense("ab", sheet)), 3)
        self.assertLessEqual(len(self.check("ab", sheet, 3)), 180)

    def test_lists(self):
        sheet = (("letter", "a"), ("next", 0))
        passed = as_lists(sheet)
        before = copy.deepcopy(passed)
        self.assertEqual(named_from_tense(sheet=passed, alphabet="ab"), named_from_tense("ab", sheet))
        self.assertEqual(passed, before)

    def test_errors(self):
        for thing in NO_ALPHABETS:
            with self.assertRaises(BadAlphabet) as held:
                named_from_tense(thing, None)
            self.assertIs(held.exception.thing, thing)
        for part in WRONG_PARTS:
            with self.assertRaises(BadSheet) as held:
                named_from_tense("ab", (("yes",), ("no",), part, ()))
            self.assertEqual(held.exception.number, 2)
        for sheet in ((), None, (("yes",),) * 6001):
            with self.assertRaises(BadSheet) as held:
                named_from_tense("ab", sheet)
            self.assertEqual(held.exception.number, -1)
        with self.assertRaises(BadSheet):
            named_from_tense("ab", chain("next", 120) + (("next", 500),))


class NamedFromCuts(unittest.TestCase):
    def check(self, alphabet, sheet, cuts, most):
        told = named_from_cuts(alphabet, sheet, cuts)
        self.assertEqual(named_sheet(alphabet, told), told)
        self.assertTrue(is_tuples(told))
        self.assertIn(free_names(alphabet, told)[-1], ("", "x"))
        self.assertTrue(set(names_used(alphabet, told)) <= set("xyz"))
        self.assertLessEqual(len(told), min(6000, 150 * (len(sheet) + len(cuts)) + 10))
        for row in rows(alphabet, most):
            self.assertEqual(named_row(told, row), cuts_row(sheet, cuts, row))
        return told

    def test_by_definition(self):
        source = chance(448)
        for _ in range(100):
            alphabet = source.choice(("a", "ab", "bdh"))
            sheet = random_sheet(source, alphabet, SET_FORMS, source.randint(1, 8))
            number = range(len(sheet))
            cuts = tuple((source.choice(number), source.choice(alphabet), source.choice(number)) for _ in range(source.randint(0, 3)))
            told = self.check(alphabet, sheet, cuts, 4 if len(alphabet) < 3 else 3)
            self.assertEqual(pair_of_named(alphabet, told), pair_of_cuts(alphabet, sheet, cuts))

    def test_each_word(self):
        base = (("letter", "a"), ("letter", "b"), ("empty",), ("none",), ("not", 3), ("or", 0, 2), ("then", 4, 1), ("then", 1, 4))
        for last in (("not", 6), ("and", 6, 7), ("or", 5, 6), ("then", 5, 5), ("then", 0, 1), ("then", 6, 7), ("then", 2, 0), ("then", 3, 4), ("then", 4, 4)):
            sheet = base + (last, ("then", 8, 1), ("then", 0, 8))
            for cut in ((8, "a", 4), (4, "b", 8), (9, "a", 10), (10, "b", 9), (2, "a", 8), (8, "a", 2)):
                self.check("ab", sheet, (cut,), 4)

    def test_the_empty_row(self):
        sheet = (("empty",), ("none",), ("not", 0), ("not", 1))
        for i in range(4):
            for j in range(4):
                told = self.check("ab", sheet, ((i, "a", j),), 4)
                self.assertEqual(pair_of_named("ab", told), pair_of_cuts("ab", sheet, ((i, "a", j),)))

    def test_no_cuts(self):
        self.check("ab", (("none",),), (), 3)

    def test_forty_parts_and_cuts(self):
        source = chance(449)
        sheet = random_sheet(source, "ab", SET_FORMS, 40)
        cuts = tuple((source.randrange(40), source.choice("ab"), source.randrange(40)) for _ in range(40))
        told = named_from_cuts("ab", sheet, cuts)
        self.assertLessEqual(len(told), 6000)
        self.assertIn(free_names("ab", told)[-1], ("", "x"))
        thens = (("letter", "a"),) + tuple(("then", k, k // 2) for k in range(39))
        self.assertLessEqual(len(named_from_cuts("ab", thens, ((39, "a", 38),) * 40)), 6000)
        for parts, applied in ((sheet + (("none",),), cuts), (sheet, cuts + cuts[:1]), (sheet * 2, ()), ((("none",),), ((0, "a", 0),) * 41), ((("none",),) * 41, ())):
            with self.assertRaises(TooMany) as held:
                named_from_cuts("ab", parts, applied)
            self.assertEqual(held.exception.word, "part")
        # One part that stands there many times is as many parts.
        self.check("ab", (("letter", "a"),) * 40, ((39, "b", 0),) * 40, 3)

    def test_lists(self):
        sheet, cuts = (("empty",), ("letter", "b")), ((0, "a", 1), (1, "b", 0))
        passed = as_lists((sheet, cuts))
        before = copy.deepcopy(passed)
        self.assertEqual(named_from_cuts(cuts=passed[1], sheet=passed[0], alphabet="ab"), named_from_cuts("ab", sheet, cuts))
        self.assertEqual(passed, before)

    def test_errors(self):
        for thing in NO_ALPHABETS:
            with self.assertRaises(BadAlphabet) as held:
                named_from_cuts(thing, None, None)
            self.assertIs(held.exception.thing, thing)
        for part in WRONG_SETS:
            with self.assertRaises(BadSheet) as held:
                named_from_cuts("ab", (("none",), ("empty",), part, ()), None)
            self.assertEqual(held.exception.number, 2)
        for cut in WRONG_CUTS:
            with self.assertRaises(BadCut) as held:
                named_from_cuts("ab", (("none",),) * 9 + (("empty",),) * 0, ((0, "a", 1), cut, None))
            self.assertEqual(held.exception.number, 1)
        # The errors of the sheet and the cuts go ahead of what is too many.
        with self.assertRaises(BadCut):
            named_from_cuts("ab", (("none",),) * 41, ((41, "a", 0),))
        with self.assertRaises(BadCut) as held:
            named_from_cuts("ab", (("none",),) * 41, ((0, "a", 0),) * 401)
        self.assertEqual(held.exception.number, -1)


if __name__ == "__main__":
    unittest.main()
