"""Rows that a layer misses ([40])."""

import copy
import unittest

from saidhere.bearing import bearing
from saidhere.errors import TooMany
from saidhere.layers import Layer
from saidhere.missing import Onto, judge_onto, onto
from saidhere.undoing import blurred
from tests.plainly import as_lists, chance, is_tuples, layer_row, led, random_layer_parts, rows
from tests.test_bearing import CHANGE, FOUR, PARITY, SAME


def first_set(layer):
    reached = {0}
    while True:
        more = {q for move in [layer.right[s] for s in reached] for q in move} - reached
        if not more:
            return tuple(sorted((0, q) for q in reached))
        reached |= more


def set_behind(layer, seams, letter):
    """The set behind a set by a letter of the target, word for word."""
    return tuple(sorted({
        (layer.left[p][k], s)
        for p, q in seams for k in range(len(layer.alphabet)) for s in range(len(layer.right))
        if layer.right[s][k] == q and layer.told[p][k][s] == letter
    }))


def sets_of(layer):
    """All sets to which rows lead, in the order of their least rows, with these rows."""
    sets, some = [first_set(layer)], [""]
    for at in range(10 ** 6):
        if at == len(sets):
            return sets, some
        for letter in layer.target:
            after = set_behind(layer, sets[at], letter)
            if after not in sets:
                sets.append(after)
                some.append(some[at] + letter)


def is_good(seams):
    return any(q == 0 for _, q in seams)


def is_right(layer, table):
    known = {tuple(sorted(set(map(tuple, seams)))) for seams in table}
    return (
        first_set(layer) in known and all(is_good(seams) for seams in known)
        and all(set_behind(layer, seams, letter) in known for seams in known for letter in layer.target)
    )


def cycles(chain, one, other, target):
    """A layer whose letters all become a, with chain + one * other sets; and the empty one, if there is a b.

    Behind a chain of left standings the letter a leads to a cycle, and b to another one; in these all go on.
    """
    left = [(p + 1, p + 1) for p in range(chain - 1)] + [(chain, chain + one)]
    left += [(chain + (k + 1) % one,) * 2 for k in range(one)]
    left += [(chain + one + (k + 1) % other,) * 2 for k in range(other)]
    return Layer("ab", target, left, ((0, 0),), [[["a"], ["a"]] for _ in left])


class OntoByDefinition(unittest.TestCase):
    def test_all_short_rows(self):
        source = chance(400)
        seen = set()
        for _ in range(200):
            alphabet, target = source.choice((("ab", "ab"), ("abc", "bd"), ("a", "ab"), ("ab", "abc"), ("abc", "ab"), ("ab", "h")))
            layer = Layer(*random_layer_parts(source, alphabet, target, 3))
            most = 6 if len(alphabet) < 3 else 5
            hit = {layer_row(layer, row) for row in rows(alphabet, most)}
            missed = [row for row in rows(target, most) if row not in hit]
            told = onto(layer=layer)
            self.assertIsInstance(told, Onto)
            self.assertIs(bool(told), told.holds)
            sets, some = sets_of(layer)
            seen.add(told.holds)
            if told.holds:
                self.assertEqual((missed, told.row), ([], None))
                self.assertEqual(told.sets, tuple(sets))
                self.assertTrue(is_tuples(told.sets))
                self.assertIs(judge_onto(layer, told.sets), True)
            else:
                self.assertIsNone(told.sets)
                self.assertTrue(missed[0] == told.row if missed else len(told.row) > most)
                self.assertEqual(bearing(layer, told.row).number, 0)
                self.assertIs(judge_onto(layer, tuple(sets)), False)
        self.assertEqual(seen, {True, False})

    def test_known(self):
        self.assertEqual(onto(SAME).sets, (((0, 0),),))
        self.assertEqual(onto(FOUR).sets, (((0, 0),),))
        self.assertTrue(onto(CHANGE))
        self.assertEqual((onto(PARITY).holds, onto(PARITY).row), (False, "ab"))
        self.assertEqual(onto(Layer("a", "bc", ((0,),), ((0,),), ((("c",),),))).row, "b")
        self.assertEqual(onto(Layer("ab", "ab", ((0, 0),), ((0, 0),), ((("a",), ("a",)),))).row, "b")

    def test_standings_to_which_no_row_leads(self):
        # The right standing 1 is met by no row, but letters lead from it to 0: it stands in sets.
        layer = Layer("a", "ab", ((0,), (0,)), ((0,), (0,)), ((("a", "b"),), (("a", "a"),)))
        told = onto(layer)
        self.assertEqual((told.holds, told.row), (False, "b"))
        layer = Layer("a", "a", ((0,), (0,)), ((0,), (0,)), ((("a", "a"),), (("a", "a"),)))
        self.assertEqual(onto(layer).sets, (((0, 0),), ((0, 0), (0, 1))))
        self.assertTrue(judge_onto(layer, (((0, 0),), ((0, 1), (0, 0)))))
        self.assertFalse(judge_onto(layer, (((0, 0),),)))
        self.assertFalse(judge_onto(layer, (((0, 0), (0, 1)),)))

    def test_300_and_301_sets(self):
        told = onto(cycles(1, 13, 23, "a"))
        self.assertEqual((told.holds, len(told.sets)), (True, 300))
        self.assertEqual(onto(cycles(2, 11, 27, "ab")).row, "b")
        self.assertEqual(len(sets_of(cycles(2, 11, 27, "ab"))[0]), 300)
        for layer in (cycles(1, 12, 25, "a"), cycles(1, 13, 23, "ab")):
            self.assertEqual(len(sets_of(layer)[0]), 301)
            with self.assertRaises(TooMany) as held:
                onto(layer)
            self.assertEqual(held.exception.word, "set")
        layer = cycles(1, 12, 25, "a")
        sets = tuple(sets_of(layer)[0])
        self.assertIs(judge_onto(layer, sets), True)
        self.assertIs(judge_onto(layer, sets[1:]), False)
        self.assertIs(judge_onto(layer, sets[:200] + sets[201:]), False)

    def test_one_to_one_layers_miss_nothing(self):
        # Rows of a length are as many on both sides, if there are as many letters.
        source = chance(401)
        for _ in range(60):
            layer = Layer(*random_layer_parts(source, "ab", "bh", 3))
            self.assertEqual(blurred(layer) is None, onto(layer).holds)

    def test_nothing_is_changed(self):
        before = copy.deepcopy(vars(PARITY))
        onto(PARITY)
        judge_onto(PARITY, ())
        self.assertEqual(vars(PARITY), before)


class Judged(unittest.TestCase):
    def test_by_definition(self):
        source = chance(402)
        seen = []
        for _ in range(60):
            layer = Layer(*random_layer_parts(source, "abc", "ab", 2))
            sets, _ = sets_of(layer)
            every = [(p, q) for p in range(len(layer.left)) for q in range(len(layer.right))]
            for _ in range(15):
                table = [list(seams) for seams in sets]
                if source.random() < 0.4:
                    table.pop(source.randrange(len(table)))
                if source.random() < 0.3:
                    table.append(source.choices(every, k=source.randint(0, 3)))
                if source.random() < 0.2 and table:
                    source.choice(table).append(source.choice(every))
                if source.random() < 0.2:
                    table.append(list(every))
                for seams in table:
                    source.shuffle(seams)
                source.shuffle(table)
                right = is_right(layer, table)
                seen.append(right)
                self.assertIs(judge_onto(layer, tuple(map(tuple, table))), right)
                self.assertIs(judge_onto(layer, as_lists(table + table)), right)
        self.assertTrue(30 < sum(seen) < len(seen) - 30)

    def test_wrong_forms(self):
        good = onto(CHANGE).sets
        self.assertIs(judge_onto(sets=good + good, layer=CHANGE), True)
        self.assertIs(judge_onto(CHANGE, [seams[::-1] * 2 for seams in good]), True)
        for bad in (
            None, 0, True, "", "00", {}, {good: 1}, (), ((),), good + ((),), good + (None,), good + ("00",), good + ((0, 0),),
            good + (((0,),),), good + (((0, 0, 0),),), good + (((0, 1),),), good + (((2, 0),),), good + (((0, -1),),),
            good + (((0, False),),), good + (((True, 0),),), good + (((0, "0"),),), good + ((None,),), good[0], 1.5,
        ):
            self.assertIs(judge_onto(CHANGE, bad), False, bad)


class Plain(unittest.TestCase):
    def test_reading_of_the_first_set(self):
        for layer in (SAME, PARITY, CHANGE):
            met = {led(layer.alphabet, layer.right, row[::-1]) for row in rows(layer.alphabet, 4)}
            self.assertEqual(first_set(layer), tuple(sorted((0, q) for q in met)))


if __name__ == "__main__":
    unittest.main()
