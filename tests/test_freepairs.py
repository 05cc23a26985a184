"""Pairs of flag readers, named sheets and cuts ([20], [21])."""

import copy
import unittest

from saidhere.errors import BadAlphabet, BadCut, BadSheet, Free, TooMany
from saidhere.flags import Reader
from saidhere.freepairs import pair_of_cuts, pair_of_named, pair_of_reader
from saidhere.leastpair import least
from saidhere.namedtext import read_named
from saidhere.pairs import Pair
from tests.plainly import NAMED_FORMS, SET_FORMS, as_lists, chance, cut_holds, named_holds, pair_marks, random_moves, random_sheet, rows
from tests.test_flags import ring
from tests.test_namedin import behind
from tests.test_plain import NO_ALPHABETS
from tests.test_plainsets import WRONG_CUTS
from tests.test_setsin import word

TWO = ((0, 0),)


class PairOfReader(unittest.TestCase):
    def test_by_definition(self):
        source = chance(410)
        for _ in range(250):
            alphabet = source.choice(("a", "ab", "bdh"))
            names = source.choice(("", "x"))
            many = source.randint(1, 4)
            moves = random_moves(source, len(alphabet) * 2 ** len(names), many)
            reader = Reader(alphabet, names, moves, [k for k in range(many) if source.random() < 0.5])
            pair = pair_of_reader(reader)
            self.assertEqual(pair.alphabet, alphabet)
            self.assertEqual(least(pair), pair)
            for row in rows(alphabet, 6 if len(alphabet) < 3 else 4):
                wanted = tuple(reader(row, (place,) if names else ()) for place in range(len(row)))
                self.assertEqual(pair_marks(pair, row), wanted)

    def test_other_names(self):
        for names in ("u", "v", "w", "y", "z", "xy", "ux", "uvwx", "xyz", "yz"):
            reader = Reader("ab", names, ring("ab", names, 3), (0,))
            with self.assertRaises(Free) as held:
                pair_of_reader(reader)
            self.assertEqual(held.exception.name, [name for name in names if name != "x"][0])

    def test_forty_standings(self):
        # The length of a row, modulo so many, is told apart on both sides.
        for many in (1, 2, 39, 40):
            pair = pair_of_reader(reader=Reader("a", "", ring("a", "", many), (0,)))
            self.assertEqual((len(pair.left), len(pair.right)), (many, many))
        for many in (41, 60):
            with self.assertRaises(TooMany) as held:
                pair_of_reader(Reader("a", "", ring("a", "", many), (0,)))
            self.assertEqual(held.exception.word, "standing")
        # On the left alone: the letters ahead of x are counted, and what is behind does not matter.
        for many, good in ((40, True), (41, False), (58, False)):
            moves = [(k + 1 if k + 1 < many else k, many if k + 1 == many else many + 1) for k in range(many)]
            reader = Reader("a", "x", moves + [(many, many + 1), (many + 1, many + 1)], (many,))
            if good:
                pair = pair_of_reader(reader)
                self.assertEqual((len(pair.left), len(pair.right)), (40, 1))
            else:
                with self.assertRaises(TooMany):
                    pair_of_reader(reader)

    def test_many_standings_that_do_not_matter(self):
        # Sixty standings, of which those of a ring are told apart by nothing.
        reader = Reader("ab", "x", ring("ab", "x", 60), tuple(range(60)))
        self.assertEqual(pair_of_reader(reader), Pair("ab", TWO, TWO, ((0, "a", 0), (0, "b", 0))))
        self.assertEqual(pair_of_reader(Reader("ab", "", ring("ab", "", 60), ())), Pair("ab", TWO, TWO, ()))

    def test_only_rows_that_x_stands_in_once(self):
        # What the reader does with rows that are not proper, is not asked.
        moves = ((0, 1, 0, 2), (1, 3, 1, 3), (2, 3, 2, 3), (3, 3, 3, 3))
        for accepted in ((1,), (0, 1), (1, 3), (0, 1, 3)):
            self.assertEqual(pair_of_reader(Reader("ab", "x", moves, accepted)), Pair.of_letters("ab", "a"))


class PairOfNamed(unittest.TestCase):
    def test_by_definition(self):
        source = chance(411)
        for _ in range(120):
            alphabet = source.choice(("a", "ab", "bdh"))
            inner = random_sheet(source, alphabet, NAMED_FORMS, source.randint(1, 8), source.choice(("xy", "xyz")))
            sheet = inner + (("some", "y", len(inner) - 1), ("all", "z", len(inner)))
            pair = pair_of_named(alphabet, sheet)
            self.assertEqual(least(pair), pair)
            for row in rows(alphabet, 5 if len(alphabet) < 3 else 3):
                wanted = tuple(named_holds(sheet, row, len(sheet) - 1, {"x": place}) for place in range(len(row)))
                self.assertEqual(pair_marks(pair, row), wanted)

    def test_without_free_names(self):
        pair = pair_of_named("ab", read_named("ab", "some x a at x"))
        self.assertEqual(pair("bbb"), (False, False, False))
        self.assertEqual(pair("bab"), (True, True, True))

    def test_free_names(self):
        for sheet, name in (
            ((("letter", "a", "y"),), "y"), ((("less", "z", "u"),), "u"), ((("same", "x", "w"),), "w"),
            ((("less", "x", "y"), ("some", "x", 0)), "y"),
        ):
            with self.assertRaises(Free) as held:
                pair_of_named("ab", sheet)
            self.assertEqual(held.exception.name, name)
        # Of the last part alone; and ahead of what its derivation has.
        self.assertEqual(pair_of_named("ab", (("letter", "a", "y"), ("yes",)))("ab"), (True, True))
        with self.assertRaises(Free):
            pair_of_named("a", behind(60) + (("less", "y", "z"),))

    def test_forty_standings(self):
        for many in (1, 38, 39):
            self.assertEqual(len(pair_of_named("a", behind(many)).right), many + 1)
        # The derivation has fewer than 60 standings, and then it has more.
        for many in (40, 41, 57, 58, 70):
            with self.assertRaises(TooMany) as held:
                pair_of_named(sheet=behind(many), alphabet="a")
            self.assertEqual(held.exception.word, "standing")
        # Too many in a part that does not matter.
        with self.assertRaises(TooMany):
            pair_of_named("a", behind(58) + (("yes",),))
        self.assertEqual(pair_of_named("a", behind(57) + (("yes",),)), Pair("a", ((0,),), ((0,),), ((0, "a", 0),)))

    def test_errors(self):
        for thing in NO_ALPHABETS:
            with self.assertRaises(BadAlphabet) as held:
                pair_of_named(thing, None)
            self.assertIs(held.exception.thing, thing)
        for sheet, number in (((), -1), (None, -1), ((("yes",), ("letter", "a")), 1), ((("letter", "a", "y"), ("not", 1)), 1)):
            with self.assertRaises(BadSheet) as held:
                pair_of_named("ab", sheet)
            self.assertEqual(held.exception.number, number)
        with self.assertRaises(TooMany) as held:
            pair_of_named("ab", (("same", "u", "v"), ("same", "w", "x"), ("same", "y", "y")))
        self.assertEqual(held.exception.word, "name")


class PairOfCuts(unittest.TestCase):
    def test_by_definition(self):
        source = chance(412)
        for _ in range(150):
            alphabet = source.choice(("a", "ab", "bdh"))
            sheet = random_sheet(source, alphabet, SET_FORMS, source.randint(1, 9))
            number = range(len(sheet))
            cuts = tuple((source.choice(number), source.choice(alphabet), source.choice(number)) for _ in range(source.randint(0, 6)))
            pair = pair_of_cuts(alphabet, sheet, cuts)
            self.assertEqual(least(pair), pair)
            for row in rows(alphabet, 5 if len(alphabet) < 3 else 4):
                wanted = tuple(cut_holds(sheet, cuts, row, place) for place in range(len(row)))
                self.assertEqual(pair_marks(pair, row), wanted)

    def test_no_cuts(self):
        self.assertEqual(pair_of_cuts("ab", (("none",),), ()), Pair("ab", TWO, TWO, ()))
        self.assertEqual(pair_of_cuts("ab", (("none",),), ((0, "a", 0),)), Pair("ab", TWO, TWO, ()))

    def test_many_cuts(self):
        sheet = (("none",), ("not", 0), ("empty",))
        cuts = tuple((1 + k % 2, "ab"[k // 2 % 2], 1 + k // 4 % 2) for k in range(400))
        self.assertEqual(pair_of_cuts("ab", sheet, cuts), Pair("ab", TWO, TWO, ((0, "a", 0), (0, "b", 0))))

    def test_forty_standings(self):
        for many in (1, 37, 38):
            sheet = (("empty",),) + tuple((w,) + tuple(k + 1 if isinstance(k, int) else k for k in rest) for w, *rest in word("a" * many))
            last = len(sheet) - 1
            pair = pair_of_cuts("a", sheet, ((0, "a", last),))
            self.assertEqual((len(pair.left), len(pair.right)), (2, many + 2))
            pair = pair_of_cuts("a", sheet, ((last, "a", 0),))
            self.assertEqual((len(pair.left), len(pair.right)), (many + 2, 2))
        for many in (39, 58, 59):
            sheet = word("a" * many)
            for cuts in (((0, "a", many - 1),), ((many - 1, "a", 0),)):
                with self.assertRaises(TooMany) as held:
                    pair_of_cuts("a", sheet, cuts)
                self.assertEqual(held.exception.word, "standing")
        # The derivation is that of the whole sheet.
        self.assertEqual(len(pair_of_cuts("a", word("a" * 58), ((0, "a", 0),)).right), 3)
        with self.assertRaises(TooMany):
            pair_of_cuts("a", word("a" * 59), ())

    def test_cuts_that_leave_nothing_over(self):
        # What is behind is told apart in very many ways, but in all of them a place is marked.
        text = [("letter", "a"), ("letter", "b"), ("or", 0, 1)]
        for _ in range(20):
            text.append(("then", 2, len(text) - 1))
        text += [("then", len(text) - 1, 0), ("none",)]
        text += [("not", len(text) - 1)]
        text += [("then", len(text) - 3, len(text) - 1), ("not", len(text))]
        last = len(text) - 1
        pair = pair_of_cuts("ab", text, ((last - 2, "a", last), (last - 2, "a", last - 1)))
        self.assertEqual(pair, Pair.of_letters("ab", "a"))
        with self.assertRaises(TooMany):
            pair_of_cuts("ab", text, ((last - 2, "a", last),))

    def test_lists(self):
        sheet, cuts = (("empty",), ("letter", "b")), ((0, "a", 1), (1, "b", 0))
        passed = as_lists((sheet, cuts))
        before = copy.deepcopy(passed)
        self.assertEqual(pair_of_cuts(cuts=passed[1], sheet=passed[0], alphabet="ab"), pair_of_cuts("ab", sheet, cuts))
        self.assertEqual(passed, before)

    def test_errors(self):
        for thing in NO_ALPHABETS:
            with self.assertRaises(BadAlphabet) as held:
                pair_of_cuts(thing, None, None)
            self.assertIs(held.exception.thing, thing)
        for sheet, number in (((), -1), (None, -1), ((("none",), ("letter", "c")), 1), ((("yes",),), 0)):
            with self.assertRaises(BadSheet) as held:
                pair_of_cuts("ab", sheet, None)
            self.assertEqual(held.exception.number, number)
        long = word("a" * 59)
        for cut in WRONG_CUTS:
            with self.assertRaises(BadCut) as held:
                pair_of_cuts("ab", (("none",), ("empty",)), ((0, "a", 1), cut, None))
            self.assertEqual(held.exception.number, 1)
        for cuts in (None, "", {}, ((0, "a", 0),) * 401):
            with self.assertRaises(BadCut) as held:
                pair_of_cuts("a", long, cuts)
            self.assertEqual(held.exception.number, -1)


if __name__ == "__main__":
    unittest.main()
