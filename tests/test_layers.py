"""Layers ([36]), and layers that are joined ([37])."""

import copy
import unittest

from saidhere.errors import BadAlphabet, BadLetter, BadPairs, BadReader, BadRow, BadTold, TooMany, Unlawful, Unlike
from saidhere.layers import Layer, layer_of, least_layer
from saidhere.leastpair import least
from saidhere.pairs import Pair
from tests.plainly import as_lists, chance, counter, is_tuples, layer_row, marked_of, pair_marks, placed
from tests.plainly import random_layer_parts, random_pair_parts, rows, table
from tests.test_plain import NO_ALPHABETS

STILL = ((0, 0),)
# A place gets b if just one of the letter there and the letter directly before it is b.
CHANGE = ("ab", "ab", ((0, 1), (0, 1)), STILL, ((("a",), ("b",)), (("b",), ("a",))))
# Over ab to efg: e at the first place, g at the last one, otherwise f for a and e for b.
ENDS = (
    "ab", "efg", ((1, 1), (1, 1)), ((1, 1), (1, 1)),
    ((("e", "e"), ("e", "e")), (("g", "f"), ("g", "e"))),
)


def parts(layer):
    return layer.alphabet, layer.target, layer.left, layer.right, layer.told


def counting(left, right, letters="ab"):
    """A letter is told as it is, but not where so many letters ahead, and behind, are counted to 0."""
    told = tuple(
        tuple(tuple("ab"[(k + (p == 0) + (q == 0)) % 2] for q in range(right)) for k in range(2))
        for p in range(left)
    )
    return Layer("ab", letters, counter(2, left), counter(2, right), told)


class Making(unittest.TestCase):
    def test_attributes(self):
        self.assertEqual(parts(Layer(*CHANGE)), CHANGE)
        self.assertEqual(parts(Layer(*ENDS)), ENDS)
        alphabet, target, left, right, told = ENDS
        layer = Layer(told=told, right=right, left=left, target=target, alphabet=alphabet)
        self.assertEqual(parts(layer), ENDS)

    def test_lists_are_kept_as_tuples(self):
        passed = [thing if isinstance(thing, str) else as_lists(thing) for thing in ENDS]
        before = copy.deepcopy(passed)
        layer = Layer(*passed)
        self.assertEqual(passed, before)
        self.assertEqual(parts(layer), ENDS)
        self.assertTrue(all(is_tuples(thing) for thing in parts(layer)))
        passed[4][0][0][0] = "g"
        passed[2][0][0] = 0
        passed[3].clear()
        self.assertEqual(parts(layer), ENDS)

    def test_wrong_alphabets(self):
        for thing in NO_ALPHABETS:
            with self.assertRaises(BadAlphabet) as held:
                Layer(thing, "ba", (), (), ())
            self.assertIs(held.exception.thing, thing)
            with self.assertRaises(BadAlphabet) as held:
                Layer("ab", thing, (), (), ())
            self.assertIs(held.exception.thing, thing)

    def test_wrong_readers(self):
        for side, at in (("left", 2), ("right", 3)):
            for moves, number in (
                ((), -1), (counter(2, 41), -1), (None, -1), ("ab", -1), (((0, 1),), 0), (((0, 0), (0,)), 1),
                (((0, 0), (True, 0)), 1), (((0, 0), (1, 2), None), 2),
            ):
                given = list(ENDS)
                given[3] = given[4] = "wrong"
                given[at] = moves
                with self.assertRaises(BadReader) as held:
                    Layer(*given)
                self.assertEqual((held.exception.side, held.exception.number), (side, number))
        many = tuple((("a",) * 40, ("b",) * 40) for _ in range(40))
        self.assertEqual(len(Layer("ab", "ab", counter(2, 40), counter(2, 40), many).told), 40)

    def test_wrong_told(self):
        good = (("e", "f"), ("g", "e"))
        for told in (
            None, "ab", 0, True, (), (good,), (good, good, good), {0: good, 1: good}, {"a", "b"}, iter([good]),
        ):
            with self.assertRaises(BadTold) as held:
                Layer(*ENDS[:4], told)
            self.assertEqual(held.exception.number, -1)
        for item in (
            None, "ef", 0, (), (("e", "f"),), (("e", "f"), ("g", "e"), ("e", "e")), (("e", "f"), ("g",)),
            (("e", "f"), "ge"),
            (("e", "f"), ("g", "e", "e")), (("e", "a"), ("g", "e")), (("e", "ef"), ("g", "e")), (("e", ""), ("g", "e")),
            (("e", 0), ("g", "e")), (("e", None), ("g", "e")), (("e", ["f"]), ("g", "e")), (("e", "f"), None), {0: "e"},
            (("e", True), ("g", "e")),
        ):
            for at in range(2):
                given = [good, good]
                given[at] = item
                with self.assertRaises(BadTold) as held:
                    Layer(*ENDS[:4], given)
                self.assertEqual(held.exception.number, at, item)
            with self.assertRaises(BadTold) as held:
                Layer(*ENDS[:4], (item, "worse"))
            self.assertEqual(held.exception.number, 0)


class Leading(unittest.TestCase):
    def test_told_by_hand(self):
        change, ends = Layer(*CHANGE), Layer(*ENDS)
        self.assertEqual(change("abba"), "abab")
        self.assertEqual(change(row=""), "")
        self.assertEqual(ends("abab"), "eefg")
        self.assertEqual((ends("a"), ends("ba")), ("e", "eg"))
        self.assertEqual(change("b" * 200), "b" + "a" * 199)

    def test_by_definition(self):
        source = chance(15)
        for alphabet, target in (("ab", "ab"), ("a", "cd"), ("ac", "h"), ("abc", "bfg")):
            for _ in range(15):
                layer = Layer(*random_layer_parts(source, alphabet, target, 4))
                for row in rows(alphabet, 5):
                    self.assertEqual(layer(row), layer_row(layer, row))

    def test_wrong_rows(self):
        for row, at in (("a" * 201, -1), (None, -1), (("a",), -1), (0, -1), ("abe", 2), ("c" * 200, 0), (["a"], -1)):
            with self.assertRaises(BadRow) as held:
                Layer(*ENDS)(row)
            self.assertEqual(held.exception.at, at)


class Equality(unittest.TestCase):
    def test_all_attributes(self):
        layer = Layer(*ENDS)
        self.assertTrue(layer == Layer(*ENDS))
        self.assertFalse(layer != Layer(*ENDS))
        others = (
            ("ac",) + ENDS[1:],
            ENDS[:1] + ("aefg",) + ENDS[2:],
            ENDS[:2] + (((1, 1), (1, 0)),) + ENDS[3:],
            ENDS[:3] + (((1, 1), (0, 1)),) + ENDS[4:],
            ENDS[:4] + (((("e", "e"), ("e", "e")), (("g", "f"), ("g", "g"))),),
        )
        for other in others:
            self.assertFalse(layer == Layer(*other))
            self.assertTrue(layer != Layer(*other))
        for thing in (None, 0, ENDS, "layer", True, Pair("ab", STILL, STILL, ())):
            self.assertIs(layer == thing, False)
            self.assertIs(thing == layer, False)


class Least(unittest.TestCase):
    def test_by_definition(self):
        source = chance(16)
        for alphabet, target, big, most, further in (
            ("ab", "ab", 3, 3, 5), ("a", "ab", 4, 9, 9), ("ad", "e", 3, 2, 3), ("abc", "cfg", 2, 2, 4),
            ("ab", "abcd", 3, 3, 5),
        ):
            for _ in range(25):
                layer = Layer(*random_layer_parts(source, alphabet, target, big))
                kept = parts(layer)
                small = least_layer(layer)
                held = {}

                def telling(row):
                    if row not in held:
                        held[row] = layer_row(layer, row)
                    return held[row]

                self.assertEqual(parts(small), (alphabet, target) + table(alphabet, telling, most, further))
                self.assertEqual(least_layer(layer=small), small)
                self.assertEqual(parts(layer), kept)
                self.assertTrue(all(is_tuples(thing) for thing in parts(small)))

    def test_told_by_hand(self):
        # Standings that are alike, to which no row leads, numbered in another order.
        layer = Layer(
            "ab", "abc", ((2, 2), (0, 1), (2, 2)), ((2, 2), (0, 1), (2, 2)),
            ((("a", "c", "a"), ("b", "c", "c")),) + ((("c",) * 3,) * 2,) + ((("a", "c", "b"), ("c", "a", "b")),),
        )
        self.assertEqual(parts(least_layer(layer)), (
            "ab", "abc", ((1, 1), (1, 1)), ((1, 1), (1, 1)),
            ((("a", "a"), ("b", "c")), (("a", "b"), ("c", "b"))),
        ))

    def test_40_standings(self):
        layer = counting(40, 40)
        self.assertEqual(least_layer(layer), layer)
        letters = tuple((("a",) * 40, ("b",) * 40) for _ in range(40))
        self.assertEqual(least_layer(Layer("ab", "ab", layer.left, layer.right, letters)), Layer.same("ab"))


class Same(unittest.TestCase):
    def test_same(self):
        for alphabet in ("a", "ab", "bdh", "abcdefgh"):
            layer = Layer.same(alphabet)
            still = ((0,) * len(alphabet),)
            wanted = (alphabet, alphabet, still, still, (tuple((letter,) for letter in alphabet),))
            self.assertEqual(parts(layer), wanted)
            self.assertEqual(least_layer(layer), layer)
            for row in rows(alphabet, 3):
                self.assertEqual(layer(row), row)
        self.assertEqual(Layer.same(alphabet="ab"), Layer.same("ab"))
        for thing in NO_ALPHABETS:
            with self.assertRaises(BadAlphabet) as held:
                Layer.same(thing)
            self.assertIs(held.exception.thing, thing)


class Marks(unittest.TestCase):
    def test_by_definition(self):
        source = chance(17)
        for alphabet, target in (("ab", "ab"), ("a", "cd"), ("abc", "bfg"), ("ab", "abcdefgh")):
            for _ in range(10):
                layer = Layer(*random_layer_parts(source, alphabet, target, 3))
                for letter in target:
                    pair = layer.mark_of(letter)
                    self.assertEqual(least(pair), pair)
                    self.assertEqual(pair.alphabet, alphabet)
                    for row in rows(alphabet, 5):
                        self.assertEqual(pair(row), tuple(x == letter for x in layer_row(layer, row)))
                    self.assertEqual(layer.mark_of(letter=letter), pair)

    def test_a_letter_that_no_place_gets(self):
        layer = Layer("ab", "abc", STILL, STILL, ((("a",), ("a",)),))
        self.assertEqual(layer.mark_of("c"), Pair.of_letters("ab", ""))
        self.assertEqual(layer.mark_of("a"), Pair.of_letters("ab", "ab"))

    def test_errors(self):
        for thing in ("a", "", "ef", "h", None, 0, True, ("e",), ["e"], {"e"}, b"e", "E"):
            with self.assertRaises(BadLetter) as held:
                Layer(*ENDS).mark_of(thing)
            self.assertIs(held.exception.thing, thing)


class LayerOf(unittest.TestCase):
    def test_what_a_layer_is_made_of(self):
        source = chance(18)
        for alphabet, target in (("ab", "ab"), ("a", "cd"), ("abc", "bfg"), ("ab", "abcdefgh"), ("ab", "h")):
            for _ in range(10):
                layer = Layer(*random_layer_parts(source, alphabet, target, 3))
                marks = [layer.mark_of(letter) for letter in target]
                self.assertEqual(layer_of(alphabet, target, marks), least_layer(layer))
                self.assertEqual(layer_of(pairs=tuple(marks), target=target, alphabet=alphabet), least_layer(layer))

    def test_pairs_that_are_not_least(self):
        even = Pair("ab", ((1, 1), (2, 2), (3, 3), (0, 0)), STILL, ((0, "a", 0), (0, "b", 0), (2, "a", 0), (2, "b", 0)))
        layer = layer_of("ab", "cd", (even, ~even))
        self.assertEqual(parts(layer), ("ab", "cd", ((1, 1), (0, 0)), STILL, ((("c",), ("c",)), (("d",), ("d",)))))

    def test_unlawful_by_definition(self):
        source = chance(19)
        times = 0
        for _ in range(120):
            alphabet, target = source.choice((("ab", "abc"), ("ab", "cd"), ("a", "ef"), ("abc", "ab"), ("ab", "g")))
            layer = Layer(*random_layer_parts(source, alphabet, target, 3))
            pairs = [layer.mark_of(letter) for letter in target]
            at = source.randrange(len(pairs))
            other = Pair(*random_pair_parts(source, alphabet, 2))
            pairs[at] = source.choice((pairs[at] & other, pairs[at] | other, other))
            most = 5 if len(alphabet) < 3 else 4
            wrong = [
                (row, place) for row, place in placed(alphabet, most)
                if sum(pair_marks(pair, row)[place] for pair in pairs) != 1
            ]
            if not wrong:
                self.assertEqual(layer_of(alphabet, target, pairs).mark_of(target[at]), least(pairs[at]))
                continue
            times += 1
            with self.assertRaises(Unlawful) as held:
                layer_of(alphabet, target, pairs)
            self.assertEqual((held.exception.row, held.exception.place), wrong[0])
        self.assertGreater(times, 40)

    def test_none_and_more_than_one(self):
        every, none = Pair.of_letters("ab", "ab"), Pair.of_letters("ab", "")
        # An odd number of marks is no better than an even one.
        for pairs in ((every, every, every), (none, none, none), (every, every, none)):
            with self.assertRaises(Unlawful) as held:
                layer_of("ab", "abc", pairs)
            self.assertEqual((held.exception.row, held.exception.place), ("a", 0))
        last = Pair("ab", STILL, ((1, 1), (1, 1)), ((0, "b", 0),))
        pairs = [every & ~last, last, last, last]
        with self.assertRaises(Unlawful) as held:
            layer_of("ab", "abcd", pairs)
        self.assertEqual((held.exception.row, held.exception.place), ("b", 0))
        with self.assertRaises(Unlawful):
            layer_of("ab", "abcdefgh", [every] * 8)

    def test_long_unlawful_rows(self):
        # Marked twice only behind 39 letters and ahead of 37 ones.
        moves = counter(2, 40), counter(2, 38)
        rare = Pair("ab", *moves, ((39, "b", 37),))
        with self.assertRaises(Unlawful) as held:
            layer_of("ab", "ab", (rare, Pair.of_letters("ab", "ab")))
        self.assertEqual((held.exception.row, held.exception.place), ("a" * 39 + "b" + "a" * 37, 39))

    def test_wrong_pairs(self):
        every, none = Pair.of_letters("ab", "ab"), Pair.of_letters("ab", "")
        for thing in (
            None, every, "ab", 0, True, (), (every,), (every, none, none), {0: every, 1: none}, iter([every, none]),
        ):
            with self.assertRaises(BadPairs) as held:
                layer_of("ab", "ab", thing)
            self.assertEqual(held.exception.number, -1)
        for thing in (
            None, 0, True, "ab", Pair.of_letters("abc", "a"), Pair.of_letters("a", ""), Layer.same("ab"), (every,),
        ):
            for at in range(3):
                pairs = [every, every, every]
                pairs[at] = thing
                with self.assertRaises(BadPairs) as held:
                    layer_of("ab", "abc", pairs)
                self.assertEqual(held.exception.number, at)
        with self.assertRaises(BadPairs) as held:
            layer_of("ab", "abc", (every, None, "x"))
        self.assertEqual(held.exception.number, 1)

    def test_wrong_alphabets(self):
        for thing in NO_ALPHABETS:
            with self.assertRaises(BadAlphabet) as held:
                layer_of(thing, "ba", None)
            self.assertIs(held.exception.thing, thing)
            with self.assertRaises(BadAlphabet) as held:
                layer_of("ab", thing, None)
            self.assertIs(held.exception.thing, thing)

    def test_number_of_standings(self):
        def zero(alphabet, letter, many, side):
            moves = counter(len(alphabet), many)
            still = ((0,) * len(alphabet),)
            readers = (moves, still) if side == "left" else (still, moves)
            return Pair(alphabet, *readers, ((0, letter, 0),))

        def splitting(counts, side):
            """Two marks for each letter: whether the count of letters ahead (behind) is 0 modulo a number."""
            alphabet = "abcdefgh"[:len(counts)]
            pairs = []
            for letter, many in zip(alphabet, counts):
                pair = zero(alphabet, letter, many, side)
                pairs += [pair, Pair.of_letters(alphabet, letter) & ~pair]
            return alphabet, "abcdefgh"[:2 * len(counts)], pairs

        for side in ("left", "right"):
            self.assertEqual(len(getattr(layer_of(*splitting((5, 8), side)), side)), 40)
            self.assertEqual(len(getattr(layer_of(*splitting((40, 20, 8), side)), side)), 40)
            for counts in ((6, 7), (40, 39), (3, 14), (9, 5), (37, 38, 39, 40), (29, 31, 37, 40)):
                with self.assertRaises(TooMany) as held:
                    layer_of(*splitting(counts, side))
                self.assertEqual(held.exception.word, "standing")
            # What is unlawful goes ahead of what are too many.
            alphabet, target, pairs = splitting((37, 38, 39, 40), side)
            pairs[-1] = Pair.of_letters(alphabet, "d") & ~zero(alphabet, "d", 39, side)
            with self.assertRaises(Unlawful) as held:
                layer_of(alphabet, target, pairs)
            wanted = ("a" * 39 + "d", 39) if side == "left" else ("d" + "a" * 39, 0)
            self.assertEqual((held.exception.row, held.exception.place), wanted)

    def test_41_standings(self):
        # No letter b so far, and a count of them modulo 39; or just one b, which is the last letter so far.
        def counted(many):
            moves = tuple(((p + 1) % many, many) for p in range(many)) + ((many, many),)
            return Pair("ab", moves, STILL, ((0, "a", 0), (0, "b", 0)))

        just = Pair("ab", ((0, 1), (2, 2), (2, 2)), STILL, ((1, "a", 0), (1, "b", 0)))
        for many in (38, 39):
            pairs = (counted(many) & Pair.of_letters("ab", "a"), just & Pair.of_letters("ab", "b"))
            pairs = pairs + (Pair.of_letters("ab", "a") & ~pairs[0], Pair.of_letters("ab", "b") & ~pairs[1])
            if many == 38:
                self.assertEqual(len(layer_of("ab", "abcd", pairs).left), 40)
            else:
                with self.assertRaises(TooMany):
                    layer_of("ab", "abcd", pairs)


class Joining(unittest.TestCase):
    def joined(self, one, other, most):
        kept = parts(one), parts(other)
        told = one * other
        self.assertIsInstance(told, Layer)
        self.assertEqual((parts(one), parts(other)), kept)
        self.assertEqual((told.alphabet, told.target), (one.alphabet, other.target))
        for row in rows(one.alphabet, most):
            self.assertEqual(told(row), layer_row(other, layer_row(one, row)))
        self.assertEqual(least_layer(told), told)
        return told

    def test_by_definition(self):
        source = chance(20)
        for _ in range(80):
            alphabet, middle, target = (source.choice(("ab", "a", "cde", "ab")) for _ in range(3))
            one = Layer(*random_layer_parts(source, alphabet, middle, 3))
            other = Layer(*random_layer_parts(source, middle, target, 2))
            self.joined(one, other, 6 if len(alphabet) < 3 else 4)

    def test_least_by_definition(self):
        source = chance(21)
        for _ in range(30):
            one = Layer(*random_layer_parts(source, "ab", "ab", 2))
            other = Layer(*random_layer_parts(source, "ab", "ab", 2))
            held = {}

            def telling(row):
                if row not in held:
                    held[row] = layer_row(other, layer_row(one, row))
                return held[row]

            told = one * other
            self.assertEqual(parts(told), ("ab", "ab") + table("ab", telling, 4, 5))

    def test_told_by_hand(self):
        change = Layer(*CHANGE)
        twice = self.joined(change, change, 7)
        # A place gets b if just one of the letter there and the letter two places before it is b.
        self.assertEqual(twice("abbab"), "abbba")
        for row in rows("ab", 7):
            wanted = "".join("ab"[(x == "b") != (y == "b")] for x, y in zip(row, "aa" + row))
            self.assertEqual(twice(row), wanted)
        self.assertEqual((len(twice.left), len(twice.right)), (4, 1))
        # The first one looks ahead of a place, the other one behind it: what is far behind can matter far ahead.
        self.joined(Layer(*ENDS), Layer("efg", "ab", ((1, 0, 0), (1, 1, 0)), ((0, 0, 1), (1, 0, 1)), tuple(
            tuple(tuple("ab"[(p + k + q) % 2] for q in range(2)) for k in range(3)) for p in range(2)
        )), 7)

    def test_the_still_layer(self):
        source = chance(22)
        for _ in range(20):
            layer = Layer(*random_layer_parts(source, "ab", "cde", 3))
            self.assertEqual(Layer.same("ab") * layer, least_layer(layer))
            self.assertEqual(layer * Layer.same("cde"), least_layer(layer))

    def test_in_any_grouping(self):
        source = chance(23)
        for _ in range(20):
            one, other, third = (Layer(*random_layer_parts(source, "ab", "ab", 2)) for _ in range(3))
            try:
                wanted = (one * other) * third
            except TooMany:
                continue
            self.assertEqual(one * (other * third), wanted)

    def test_unlike_alphabets(self):
        change, ends = Layer(*CHANGE), Layer(*ENDS)
        for one, other in ((ends, change), (ends, ends), (Layer.same("abc"), change), (change, Layer.same("a"))):
            with self.assertRaises(Unlike) as held:
                one * other
            self.assertEqual(held.exception.word, "alphabet")

    def test_number_of_standings(self):
        same = Layer.same("ab")
        self.assertEqual(counting(40, 40) * same, counting(40, 40))
        self.assertEqual(same * counting(40, 40), counting(40, 40))

        def noting(many, side):
            """The count of letters ahead (behind) is 0 modulo a number: c for a, d for b; otherwise a and b."""
            told = tuple((("c" if p == 0 else "a",), ("d" if p == 0 else "b",)) for p in range(many))
            if side == "left":
                return Layer("ab", "abcd", counter(2, many), STILL, told)
            told = (tuple(tuple(items[k][0] for items in told) for k in range(2)),)
            return Layer("ab", "abcd", STILL, counter(2, many), told)

        def again(many, side):
            """The same over abcd to abcdefgh: the next four letters where the count is 0."""
            told = tuple(tuple(("abcdefgh"[k + 4 * (p == 0)],) for k in range(4)) for p in range(many))
            if side == "left":
                return Layer("abcd", "abcdefgh", counter(4, many, range(4)), ((0,) * 4,), told)
            told = (tuple(tuple(items[k][0] for items in told) for k in range(4)),)
            return Layer("abcd", "abcdefgh", ((0,) * 4,), counter(4, many, range(4)), told)

        def ab_counter(many, side):
            layer = noting(many, side)
            moves = counter(2, many, (0, 1))
            if side == "left":
                return Layer("ab", "abcd", moves, layer.right, layer.told)
            return Layer("ab", "abcd", layer.left, moves, layer.told)

        for side in ("left", "right"):
            for one, other, many in ((5, 8, 40), (20, 8, 40), (6, 5, 30), (1, 40, 40), (39, 3, 39)):
                told = ab_counter(one, side) * again(other, side)
                self.assertEqual(len(getattr(told, side)), many)
                for row in ("", "a", "abba" * 3):
                    self.assertEqual(told(row), again(other, side)(ab_counter(one, side)(row)))
            for one, other in ((6, 7), (3, 14), (40, 39), (40, 3), (9, 5)):
                with self.assertRaises(TooMany) as held:
                    ab_counter(one, side) * again(other, side)
                self.assertEqual(held.exception.word, "standing")
            # What the first layer counts is lost, so what it stands at does not make more classes.
            deaf = Layer("abcd", "ab", *(again(40, side).left, again(40, side).right), tuple(
                tuple(tuple("b" if letter in "efgh" else "a" for letter in told) for told in items)
                for items in again(40, side).told
            ))
            self.assertEqual(getattr(ab_counter(39, side) * deaf, side), counter(2, 40, (0, 1)))
            self.assertEqual(getattr(ab_counter(7, side) * deaf, side), counter(2, 40, (0, 1)))
        both = ab_counter(5, "left") * again(8, "left")
        self.assertEqual((len(both.left), len(both.right)), (40, 1))
        both = ab_counter(40, "left") * again(40, "right")
        self.assertEqual((len(both.left), len(both.right)), (40, 40))

    def test_41_standings(self):
        # What is told behind the first b, by the first layer, and the count up to it, by the other one.
        def marked(many):
            moves = tuple(((p + 1) % many, many) for p in range(many)) + ((many, many),)
            told = tuple((("b" if p == 0 else "a",), ("b" if p == 0 else "a",)) for p in range(many + 1))
            return Layer("abc", "ab", tuple(move + (many,) for move in moves), ((0, 0, 0),), tuple(
                items + (("b",),) for items in told
            ))

        told = ((("a",), ("b",)), (("c",), ("c",)), (("a",), ("b",)))
        just = Layer("ab", "abc", ((0, 1), (2, 2), (2, 2)), STILL, told)
        self.assertEqual(len((just * marked(38)).left), 40)
        with self.assertRaises(TooMany):
            just * marked(39)

    def test_many_ways_that_come_to_little(self):
        # For each count behind, modulo 40, the other layer stands at the parity of other letters b, so there are
        # 2 ** 40 ways to stand for a row ahead. But the parity would only show at a letter c, which never comes.
        one = Layer("ab", "abc", STILL, counter(2, 40, (0, 1)), (
            (("a",) * 40, ("b",) + ("a",) * 39),
        ))
        parity = ((0, 1, 0), (1, 0, 1))
        other = Layer("abc", "ab", parity, ((0, 0, 0),), ((("a",), ("a",), ("a",)), (("a",), ("a",), ("b",))))
        self.assertEqual(least_layer(other), other)
        self.assertEqual(parts(one * other), ("ab", "ab", STILL, STILL, ((("a",), ("a",)),)))
        # If it shows at each letter, there are too many classes of rows.
        shown = Layer("abc", "ab", parity, ((0, 0, 0),), ((("a",),) * 3, (("b",),) * 3))
        with self.assertRaises(TooMany):
            one * shown

    def test_layers_that_undo_one_another(self):
        # The letters b are counted from the end on, and this is taken back.
        back = Layer("ab", "ab", STILL, ((0, 1), (1, 0)), ((("a", "b"), ("b", "a")),))
        undo = Layer("ab", "ab", STILL, ((0, 1), (0, 1)), ((("a", "b"), ("b", "a")),))
        self.assertEqual(back * undo, Layer.same("ab"))
        self.assertEqual(undo * back, Layer.same("ab"))

    def test_what_only_two_long_sides_together_show(self):
        # The first layer notes, at each place, whether there is an even number of letters behind it; the other
        # one marks a place if the row ahead, as noted, ends in three notes of one kind: that never comes about.
        note = Layer("ab", "ab", STILL, ((1, 1), (0, 0)), ((("a", "b"), ("a", "b")),))
        three = Layer("ab", "ab", ((1, 2), (3, 2), (1, 4), (5, 2), (1, 5), (5, 5)), STILL, tuple(
            (("b",), ("b",)) if p == 5 else (("a",), ("a",)) for p in range(6)
        ))
        self.assertEqual(parts(note * three), ("ab", "ab", STILL, STILL, ((("a",), ("a",)),)))


if __name__ == "__main__":
    unittest.main()
