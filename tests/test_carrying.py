"""Sayings carried to other tongues ([28] with [22], [25], [26], [27])."""

import copy
import unittest

from saidhere.carrying import carried
from saidhere.cutsout import cuts_of
from saidhere.errors import BadAlphabet, BadCut, BadKind, BadMarked, BadReader, BadSaying, BadSheet, Free, TooMany, Unsayable
from saidhere.namedcuts import named_from_cuts
from saidhere.namedout import named_from_tense
from saidhere.pairs import Pair
from saidhere.sayingpairs import pair_of
from saidhere.sayings import saying
from saidhere.tenseout import tense_of
from saidhere.turnings import is_steady
from tests.plainly import as_lists, chance, cut_holds, is_tuples, named_holds, pair_marks, rows, steady_pair_parts, tense_holds
from tests.test_namedin import behind
from tests.test_plain import NO_ALPHABETS
from tests.test_sayingpairs import random_saying
from tests.test_sayings import SAYINGS
from tests.test_setsin import word
from tests.test_tensein import chain
from tests.test_turnings import EVEN, ring_pair

KINDS = ("tense", "named", "cuts", "pair")


def said(alphabet, thing, row):
    """What a saying says of a row, by definition."""
    places = range(len(row))
    if thing[0] == "tense":
        return tuple(tense_holds(thing[1], row, len(thing[1]) - 1, place) for place in places)
    if thing[0] == "named":
        return tuple(named_holds(thing[1], row, len(thing[1]) - 1, {"x": place}) for place in places)
    if thing[0] == "cuts":
        return tuple(cut_holds(thing[1], thing[2], row, place) for place in places)
    return pair_marks(Pair(alphabet, *thing[1:]), row)


class Carried(unittest.TestCase):
    def test_each_kind_to_each_kind_and_back(self):
        source = chance(450)
        for kind in KINDS * 9:
            alphabet = source.choice(("a", "ab", "bdh"))
            thing, telling = random_saying(source, alphabet, kind)
            pair = pair_of(alphabet, thing)
            if not is_steady(pair):
                continue
            for other in KINDS:
                there = carried(alphabet, thing, other)
                self.assertEqual(there[0], other)
                self.assertEqual(saying(alphabet, there), there)
                self.assertTrue(is_tuples(there))
                for row in rows(alphabet, 4 if len(alphabet) < 3 else 3):
                    self.assertEqual(said(alphabet, there, row), telling(row))
                self.assertEqual(pair_of(alphabet, there), pair)
                self.assertEqual(pair_of(alphabet, carried(alphabet, there, kind)), pair)

    def test_one_kind_already(self):
        for thing in SAYINGS:
            if thing[0] != "pair":
                told = carried("ab", as_lists(thing), thing[0])
                self.assertEqual(told, thing)
                self.assertTrue(is_tuples(told))
        # A pair is made the least one.
        thing = ("pair", ((1, 0), (0, 1)), ((0, 0), (1, 1)), ((0, "a", 0), (1, "a", 0)))
        self.assertEqual(carried("ab", thing, "pair"), ("pair", ((0, 0),), ((0, 0),), ((0, "a", 0),)))
        self.assertEqual(carried("ab", as_lists(thing), "pair"), ("pair", ((0, 0),), ((0, 0),), ((0, "a", 0),)))

    def test_ways(self):
        source = chance(451)
        for kind in KINDS * 6:
            thing, _ = random_saying(source, "ab", kind)
            pair = pair_of("ab", thing)
            if not is_steady(pair):
                continue
            self.assertEqual(carried("ab", thing, "pair"), ("pair", pair.left, pair.right, pair.marked))
            if kind != "cuts":
                self.assertEqual(carried("ab", thing, "cuts"), ("cuts",) + cuts_of(pair))
            if kind != "tense":
                self.assertEqual(carried("ab", thing, "tense"), ("tense", tense_of(pair)))
            named = {
                "tense": lambda: named_from_tense("ab", thing[1]), "named": lambda: thing[1],
                "cuts": lambda: named_from_cuts("ab", *thing[1:]), "pair": lambda: named_from_tense("ab", tense_of(pair)),
            }
            self.assertEqual(carried("ab", thing, "named"), ("named", named[kind]()))

    def test_what_goes_by_no_pair(self):
        # A pair would have too many standings, but none is made.
        self.assertEqual(carried("a", ("tense", chain("next", 60)), "named")[0], "named")
        self.assertEqual(carried("a", ("tense", chain("next", 60)), "tense"), ("tense", chain("next", 60)))
        self.assertEqual(carried("a", ("cuts", word("a" * 40), ((39, "a", 0),)), "named")[0], "named")
        self.assertEqual(carried("a", ("cuts", word("a" * 70), ()), "cuts"), ("cuts", word("a" * 70), ()))
        self.assertEqual(carried("a", ("named", behind(70)), "named"), ("named", behind(70)))

    def test_steady_pairs_of_three_standings(self):
        source = chance(452)
        for alphabet in ("ab", "a", "ab"):
            parts = steady_pair_parts(source, alphabet, 3, 3)
            pair = pair_of(alphabet, ("pair",) + parts[1:])
            for kind in KINDS:
                self.assertEqual(pair_of(alphabet, carried(alphabet, ("pair",) + parts[1:], kind)), pair)

    def test_marks_that_are_not_steady(self):
        thing = ("pair", EVEN.left, EVEN.right, EVEN.marked)
        for kind in ("tense", "named", "cuts"):
            with self.assertRaises(Unsayable) as held:
                carried("ab", thing, kind)
            told = held.exception
            self.assertEqual((told.side, told.standing, told.turn, told.count), ("left", 0, "a", 2))
        self.assertEqual(carried("ab", thing, "pair"), thing)
        many = ring_pair("left")
        for kind in ("tense", "named", "cuts"):
            with self.assertRaises(TooMany) as held:
                carried("ab", ("pair", many.left, many.right, many.marked), kind)
            self.assertEqual(held.exception.word, "map")

    def test_too_many(self):
        for alphabet, thing, kind, name in (
            ("a", ("tense", chain("next", 40)), "pair", "standing"), ("a", ("tense", chain("next", 40)), "cuts", "standing"),
            ("a", ("tense", chain("next", 100)), "named", "part"), ("a", ("named", behind(40)), "tense", "standing"),
            ("a", ("named", behind(58)), "pair", "standing"), ("a", ("named", behind(40)), "cuts", "standing"),
            ("a", ("cuts", word("a" * 39), ((38, "a", 0),)), "tense", "standing"), ("a", ("cuts", word("a" * 41), ()), "named", "part"),
            ("a", ("cuts", (("none",),), ((0, "a", 0),) * 41), "named", "part"), ("a", ("cuts", word("a" * 59), ()), "pair", "standing"),
        ):
            with self.assertRaises(TooMany) as held:
                carried(alphabet, thing, kind)
            self.assertEqual(held.exception.word, name)

    def test_kinds(self):
        for kind in ("", "Tense", "tenses", "set", None, 0, True, ("tense",), ["pair"], b"tense", {}, 1.5):
            for thing in SAYINGS:
                with self.assertRaises(BadKind) as held:
                    carried("ab", thing, kind)
                self.assertIs(held.exception.thing, kind)

    def test_errors(self):
        for thing in NO_ALPHABETS:
            with self.assertRaises(BadAlphabet) as held:
                carried(thing, None, None)
            self.assertIs(held.exception.thing, thing)
        for thing in (None, 0, (), "tense", ("Tense", (("yes",),)), ("tense",), ("cuts", (("none",),)), ("named", (), ())):
            with self.assertRaises(BadSaying) as held:
                carried("ab", thing, None)
            self.assertIs(held.exception.thing, thing)
        for thing, error in (
            (("tense", ()), BadSheet), (("named", (("less", "x", "y"),)), Free), (("named", (("next", 0),)), BadSheet),
            (("cuts", (("yes",),), None), BadSheet), (("cuts", (("none",),), None), BadCut), (("pair", (), (), None), BadReader),
            (("pair", ((0, 0),), ((0, 0),), None), BadMarked),
        ):
            with self.assertRaises(error):
                carried("ab", thing, "none")
        # A kind that is none goes ahead of what comes on the way.
        with self.assertRaises(BadKind):
            carried("a", ("tense", chain("next", 40)), "none")
        with self.assertRaises(BadKind):
            carried("ab", ("pair", EVEN.left, EVEN.right, EVEN.marked), "Tense")

    def test_nothing_is_changed(self):
        for thing in SAYINGS:
            for kind in KINDS:
                passed = as_lists(thing)
                before = copy.deepcopy(passed)
                try:
                    told = carried(kind=kind, thing=passed, alphabet="ab")
                except Unsayable:
                    told = None
                self.assertEqual(passed, before)
                if told is not None:
                    passed[1].clear()
                    self.assertTrue(is_tuples(told))
                    self.assertEqual(pair_of("ab", told), pair_of("ab", thing))


if __name__ == "__main__":
    unittest.main()
