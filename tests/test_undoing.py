"""Clear and blurred layers, and what undoes them ([39])."""

import copy
import unittest

from saidhere.errors import Blurred, TooMany, Unlike
from saidhere.layers import Layer, least_layer
from saidhere.layerworks import drawn_back
from saidhere.pairs import Pair
from saidhere.turnings import is_steady
from saidhere.delays import delay, reach
from saidhere.undoing import blurred, undone
from tests.plainly import chance, counter, layer_row, random_layer_parts, random_moves, random_pair_parts, rows
from tests.test_bearing import CHANGE, CHANGE_BACK, FOUR, PARITY, SAME


def by_left(alphabet, moves, letters):
    """The layer that leads the letters at a place by the left standing alone; letters has a row for each one."""
    still = (tuple(0 for _ in alphabet),)
    return Layer(alphabet, alphabet, moves, still, tuple(tuple((x,) for x in row) for row in letters))


def by_right(alphabet, moves, letters):
    still = (tuple(0 for _ in alphabet),)
    return Layer(alphabet, alphabet, still, moves, (tuple(tuple(row[k] for row in letters) for k in range(len(alphabet))),))


def flipped(bits):
    return tuple("ba" if bit else "ab" for bit in bits)


# Layers joined of one that goes by the left and one that goes by the right: what undoes them has 40 and 41 left standings.
FORTY = (
    by_left("ab", ((2, 4), (0, 0), (0, 4), (5, 0), (2, 5), (1, 0), (4, 1)), flipped((1, 0, 0, 1, 1, 0, 1))),
    by_right("ab", ((1, 1), (0, 2), (2, 2)), flipped((1, 1, 0))),
)
FORTY_ONE = (
    by_left("ab", ((6, 1), (3, 5), (3, 0), (2, 2), (3, 4), (5, 4), (0, 1), (3, 5)), flipped((0, 0, 0, 0, 1, 1, 1, 1))),
    by_right("ab", ((0, 2), (1, 1), (2, 1)), flipped((1, 1, 0))),
)


def least_two(layer, most):
    """The least row that is led to the same row as a greater one, and the least such one, of all short rows."""
    led = {}
    for row in rows(layer.alphabet, most):
        led.setdefault(layer_row(layer, row), []).append(row)
    some = [tuple(told[:2]) for told in led.values() if len(told) > 1]
    return min(some, key=lambda two: (len(two[0]), two), default=None)


class BlurredLayers(unittest.TestCase):
    def test_by_definition(self):
        source = chance(390)
        seen = set()
        for _ in range(250):
            alphabet, target = source.choice((("ab", "ab"), ("abc", "bd"), ("a", "ab"), ("ab", "abc"), ("bdh", "ace")))
            layer = Layer(*random_layer_parts(source, alphabet, target, 3))
            most = 6 if len(alphabet) < 3 else 4
            told = blurred(layer=layer)
            found = least_two(layer, most)
            seen.add((told is None, len(alphabet)))
            if told is None or len(told[0]) <= most:
                self.assertEqual(told, found)
            else:
                self.assertIsNone(found)
                self.assertLess(told[0], told[1])
                self.assertEqual(layer_row(layer, told[0]), layer_row(layer, told[1]))
        self.assertEqual(seen, {(True, 1), (False, 2), (True, 2), (False, 3), (True, 3)})

    def test_known(self):
        for layer in (SAME, CHANGE, CHANGE_BACK):
            self.assertIsNone(blurred(layer))
        self.assertEqual(blurred(FOUR), ("a", "b"))
        self.assertEqual(blurred(PARITY), ("aa", "bb"))
        self.assertEqual(blurred(PARITY * CHANGE), ("aa", "bb"))
        # Three rows that are led to one: the least two are told.
        self.assertEqual(blurred(Layer("abc", "ab", ((0, 0, 0),), ((0, 0, 0),), ((("b",), ("b",), ("b",)),))), ("a", "b"))

    def test_a_long_least_row(self):
        # The letters are kept until the row has 9 letters ahead; then all become a.
        left = tuple((min(p + 1, 9),) * 2 for p in range(10))
        layer = Layer("ab", "ab", left, ((0, 0),), tuple((("a",), ("b" if p < 9 else "a",)) for p in range(10)))
        self.assertEqual(blurred(layer), ("a" * 10, "a" * 9 + "b"))
        # The same, if the last but nine is the one that can't be told.
        back = Layer("ab", "ab", ((0, 0),), left, ((("a",) * 10, ("b",) * 9 + ("a",)),))
        self.assertEqual(blurred(back), ("a" * 10, "b" + "a" * 9))
        # Told apart at the first place by the number of the letters, whether 7 divides it; the others are alike.
        seven = Layer("ab", "ab", ((1, 1), (1, 1)), counter(2, 7, (0, 1)), (
            (("a",) * 7, ("b",) * 6 + ("a",)), (("a",) * 7, ("b",) * 7)))
        self.assertEqual(blurred(seven), ("a" * 7, "b" + "a" * 6))

    def test_standings_to_which_no_row_leads(self):
        layer = Layer("ab", "ab", ((0, 0), (0, 0)), ((0, 0), (0, 1)), ((("a", "b"), ("b", "b")), (("a", "a"), ("a", "a"))))
        self.assertIsNone(blurred(layer))
        self.assertEqual(undone(layer), SAME)


class Undone(unittest.TestCase):
    def test_by_definition(self):
        source = chance(391)
        many = 0
        while many < 60:
            alphabet, target = source.choice((("ab", "ab"), ("ab", "bh"), ("bdh", "ace"), ("a", "c")))
            layer = Layer(*random_layer_parts(source, alphabet, target, 3))
            if blurred(layer) is not None:
                with self.assertRaises(Blurred) as held:
                    undone(layer)
                self.assertEqual((held.exception.row, held.exception.other), blurred(layer))
                continue
            many += 1
            self.check(layer)

    def check(self, layer):
        told = undone(layer)
        self.assertEqual((told.alphabet, told.target), (layer.target, layer.alphabet))
        self.assertEqual(least_layer(told), told)
        for row in rows(layer.alphabet, 6 if len(layer.alphabet) < 3 else 4):
            self.assertEqual(layer_row(told, layer_row(layer, row)), row)
        self.assertEqual(layer * told, Layer.same(layer.alphabet))
        self.assertEqual(told * layer, Layer.same(layer.target))
        self.assertEqual(undone(told), least_layer(layer))

    def test_both_sides(self):
        source = chance(392)
        many = 0
        while many < 25:
            alphabet = source.choice(("ab", "abc"))
            size = source.randint(2, 4)
            one, other = (
                make(alphabet, random_moves(source, len(alphabet), size), [
                    "".join(source.sample(alphabet, len(alphabet))) for _ in range(size)])
                for make in (by_left, by_right)
            )
            try:
                layer = one * other
                back = undone(other) * undone(one)
            except TooMany:
                continue
            many += 1
            self.assertEqual(undone(layer), back)
            self.check(layer)

    def test_what_undoes_need_not_be_steady(self):
        told = undone(CHANGE)
        self.assertEqual(told.left, ((0, 1), (1, 0)))
        mark = CHANGE.mark_of("b")
        self.assertEqual((is_steady(mark), delay(mark), reach(mark)), (True, 0, 1))
        counted = told.mark_of("b")
        self.assertEqual((is_steady(counted), reach(counted)), (False, None))
        self.assertEqual(told("bbaab"), "baaab")
        self.assertEqual(undone(CHANGE_BACK)("baabb"), "baaab")

    def test_forty_and_more_standings(self):
        one, other = FORTY
        told = undone(one * other)
        self.assertEqual((len(told.left), len(told.right)), (40, 3))
        self.assertEqual(told, undone(other) * undone(one))
        one, other = FORTY_ONE
        layer = one * other
        self.assertIsNone(blurred(layer))
        for call in (lambda: undone(layer), lambda: undone(other) * undone(one)):
            with self.assertRaises(TooMany) as held:
                call()
            self.assertEqual(held.exception.word, "standing")
        # The same from the other side.
        turned = [Layer("ab", "ab", x.right, x.left, [[[x.told[p][k][q] for p in range(len(x.left))] for k in range(2)]
                  for q in range(len(x.right))]) for x in (FORTY[0] * FORTY[1], FORTY_ONE[0] * FORTY_ONE[1])]
        told = undone(turned[0])
        self.assertEqual((len(told.left), len(told.right)), (3, 40))
        with self.assertRaises(TooMany):
            undone(turned[1])

    def test_many_standings(self):
        source = chance(393)
        for alphabet in ("ab", "abcdefgh"):
            for make in (by_left, by_right):
                letters = ["".join(source.sample(alphabet, len(alphabet))) for _ in range(40)]
                layer = make(alphabet, random_moves(source, len(alphabet), 40), letters)
                self.assertEqual(layer * undone(layer=layer), Layer.same(alphabet))

    def test_what_binds_it_to_marks_that_are_drawn_back(self):
        source = chance(394)
        for layer in (CHANGE, CHANGE_BACK, FORTY[0], undone(CHANGE)):
            for _ in range(6):
                pair = Pair(*random_pair_parts(source, "ab", 2))
                try:
                    back = drawn_back(undone(layer), drawn_back(layer, pair))
                except TooMany:
                    continue
                self.assertEqual(back, pair & pair)

    def test_errors_in_their_order(self):
        with self.assertRaises(Unlike) as held:
            undone(FOUR)
        self.assertEqual(held.exception.word, "letters")
        more = Layer("a", "ab", ((0,),), ((0,),), ((("a",),),))
        self.assertIsNone(blurred(more))
        with self.assertRaises(Unlike):
            undone(more)
        with self.assertRaises(Blurred) as held:
            undone(PARITY)
        self.assertEqual((held.exception.row, held.exception.other), ("aa", "bb"))

    def test_nothing_is_changed(self):
        before = copy.deepcopy(vars(CHANGE))
        undone(CHANGE)
        blurred(CHANGE)
        self.assertEqual(vars(CHANGE), before)


if __name__ == "__main__":
    unittest.main()
