"""Layers at work ([37])."""

import copy
import unittest

from saidhere.errors import BadAlphabet, BadSheet, BadSheets, TooMany, Unlike
from saidhere.layers import Layer, layer_of, least_layer
from saidhere.layerworks import drawn_back, parted_layers, put_in
from saidhere.leastpair import least
from saidhere.meaning import tense_marks
from saidhere.pairs import Pair
from saidhere.tensetext import read_tense
from tests import plainly
from tests.plainly import as_lists, chance, counter, is_tuples, layer_row, marked_of, pair_marks, placed
from tests.plainly import random_layer_parts, random_pair_parts, random_sheet, rows, table, tense_holds, tidy
from tests.test_layers import CHANGE, ENDS, STILL, counting, parts
from tests.test_plain import NO_ALPHABETS

YES = ("yes",)


class Parted(unittest.TestCase):
    def by_rows(self, one, other, most):
        """The least placed row with different letters, of the rows with at most so many letters."""
        for row, place in placed(one.alphabet, most):
            if layer_row(one, row)[place] != layer_row(other, row)[place]:
                return row, place
        return None

    def test_by_definition(self):
        source = chance(70)
        alike, most = 0, 0
        for _ in range(300):
            alphabet, target = source.choice(("ab", "a", "cde")), source.choice(("ab", "fgh"))
            one = Layer(*random_layer_parts(source, alphabet, target, 3))
            other = Layer(*random_layer_parts(source, alphabet, target, 3))
            if source.random() < 0.6:
                # The same as the first one, but for one letter that is told.
                told = as_lists(one.told)
                p, k = source.randrange(len(told)), source.randrange(len(alphabet))
                told[p][k][source.randrange(len(one.right))] = source.choice(target)
                other = Layer(alphabet, target, one.left, one.right, told)
            found = parted_layers(one, other)
            self.assertEqual(found, parted_layers(other, one))
            if found is None:
                alike += 1
                self.assertIsNone(self.by_rows(one, other, 5 if len(alphabet) < 3 else 4))
                self.assertEqual(least_layer(one), least_layer(other))
            else:
                self.assertIsInstance(found, tuple)
                most = max(most, len(found[0]))
                self.assertEqual(found, self.by_rows(one, other, len(found[0])))
        self.assertGreater(alike, 20)
        self.assertGreater(most, 2)

    def test_by_hand(self):
        change, same = Layer(*CHANGE), Layer.same("ab")
        self.assertIsNone(parted_layers(one=change, other=least_layer(change)))
        self.assertEqual(parted_layers(change, same), ("ba", 1))
        self.assertEqual(parted_layers(change, change * change), ("ba", 1))
        self.assertEqual(parted_layers(change * change, same), ("baa", 2))
        self.assertIsNone(parted_layers(Layer.same("a"), Layer.same("a")))
        # Two places differ in the least row: the first one is told.
        swapped = Layer("ab", "ab", STILL, ((0, 1), (1, 1)), ((("a", "b"), ("b", "a")),))
        self.assertEqual(parted_layers(swapped, same), ("ab", 0))

    def test_standings_to_which_no_row_leads_do_not_matter(self):
        one = Layer("a", "ab", ((0,), (1,)), ((0,), (1,)), ((("a", "b"),), (("b", "b"),)))
        self.assertIsNone(parted_layers(one, Layer("a", "ab", ((0,),), ((0,),), ((("a",),),))))

    def test_a_long_row(self):
        # They differ only where 39 letters are ahead modulo 40, and 38 behind modulo 39 (or 36 modulo 37).
        def one(many, behind, letter):
            told = tuple(tuple(
                tuple(letter if (p, q) == (39, many - 1) else "a" for q in range(many)) for _ in "ab"
            ) for p in range(40))
            return Layer("ab", "ab", counter(2, 40, (0, 1)), counter(2, many, (0, 1)), told)

        self.assertEqual(parted_layers(one(39, 0, "a"), one(39, 0, "b")), ("a" * 78, 39))
        self.assertEqual(parted_layers(one(39, 0, "b"), one(37, 0, "b")), ("a" * 76, 39))
        # The rows ahead lead to the greatest joint standing only when 1559 letters are read.
        told = tuple((("b" if p == 39 else "a",),) for p in range(40))
        least_told = tuple((("b" if p == 38 else "a",),) for p in range(39))
        one, other = Layer("a", "ab", counter(1, 40), ((0,),), told), Layer("a", "ab", counter(1, 39), ((0,),), least_told)
        self.assertEqual(parted_layers(one, other), ("a" * 39, 38))
        last = tuple((("b",),) for p in range(40))
        self.assertEqual(parted_layers(Layer("a", "ab", counter(1, 40), ((0,),), last), one), ("a", 0))

    def test_unlike(self):
        change, ends = Layer(*CHANGE), Layer(*ENDS)
        for one, other, word in (
            (change, ends, "target"), (ends, change, "target"), (change, Layer.same("abc"), "alphabet"),
            (Layer.same("cd"), ends, "alphabet"), (Layer.same("a"), Layer.same("b"), "alphabet"),
            (change, Layer("ab", "abc", STILL, STILL, ((("a",), ("b",)),)), "target"),
        ):
            with self.assertRaises(Unlike) as held:
                parted_layers(one, other)
            self.assertEqual(held.exception.word, word)


class DrawnBack(unittest.TestCase):
    def check(self, layer, pair, most):
        told = drawn_back(layer, pair)
        self.assertIsInstance(told, Pair)
        self.assertEqual(told.alphabet, layer.alphabet)
        for row in rows(layer.alphabet, most):
            self.assertEqual(told(row), pair_marks(pair, layer_row(layer, row)), row)
        self.assertEqual(least(told), told)
        return told

    def test_by_definition(self):
        source = chance(71)
        for _ in range(150):
            alphabet, target = source.choice(("ab", "a", "cde")), source.choice(("ab", "fgh"))
            layer = Layer(*random_layer_parts(source, alphabet, target, 3))
            self.check(layer, Pair(*random_pair_parts(source, target, 3)), 6 if len(alphabet) < 3 else 4)

    def test_least_by_definition(self):
        source = chance(72)
        for _ in range(30):
            layer = Layer(*random_layer_parts(source, "ab", "ab", 2))
            pair = Pair(*random_pair_parts(source, "ab", 2))
            held = {}

            def telling(row):
                if row not in held:
                    held[row] = pair_marks(pair, layer_row(layer, row))
                return held[row]

            told = drawn_back(layer=layer, pair=pair)
            left, right, marks = table("ab", telling, 4, 5)
            self.assertEqual((told.left, told.right, told.marked), (left, right, marked_of("ab", marks)))

    def test_letters_and_the_still_layer(self):
        source = chance(73)
        for _ in range(30):
            layer = Layer(*random_layer_parts(source, "ab", "cde", 3))
            for letter in "cde":
                self.assertEqual(drawn_back(layer, Pair.of_letters("cde", letter)), layer.mark_of(letter))
            pair = Pair(*random_pair_parts(source, "cde", 3))
            self.assertEqual(drawn_back(Layer.same("cde"), pair), least(pair))
            self.assertEqual(drawn_back(layer, ~pair), ~drawn_back(layer, pair))
            other = Layer(*random_layer_parts(source, "ab", "ab", 2))
            self.assertEqual(drawn_back(other * layer, pair), drawn_back(other, drawn_back(layer, pair)))

    def test_nothing_that_was_passed_is_changed(self):
        layer, pair = Layer(*CHANGE), Pair.of_letters("ab", "b")
        told = drawn_back(layer, pair)
        self.assertEqual(parts(layer), CHANGE)
        self.assertEqual(pair, Pair.of_letters("ab", "b"))
        self.assertEqual((told.left, told.right, told.marked), (((0, 1), (0, 1)), STILL, ((0, "b", 0), (1, "a", 0))))

    def test_unlike(self):
        for layer, pair in (
            (Layer(*CHANGE), Pair.of_letters("abc", "b")), (Layer(*ENDS), Pair.of_letters("ab", "")),
            (Layer(*CHANGE), Pair.of_letters("a", "a")),
        ):
            with self.assertRaises(Unlike) as held:
                drawn_back(layer, pair)
            self.assertEqual(held.exception.word, "alphabet")

    def test_40_41_and_more_standings(self):
        # A row ahead goes through the layer, which counts, and the pair, which counts the letters it tells.
        def noted(many, side):
            """Over ab to abcd: c and d where the count of letters ahead (behind) is 0."""
            told = tuple((("ac"[p == 0],), ("bd"[p == 0],)) for p in range(many))
            if side == "left":
                return Layer("ab", "abcd", counter(2, many, (0, 1)), STILL, told)
            told = (tuple(tuple(items[k][0] for items in told) for k in range(2)),)
            return Layer("ab", "abcd", STILL, counter(2, many, (0, 1)), told)

        def counted(many, side, extra=""):
            """The places with c or d ahead of (behind) which there are 0 letters modulo a number."""
            moves, still = counter(4, many, range(4)), ((0, 0, 0, 0),)
            marked = ((0, "c", 0), (0, "d", 0))
            return Pair("abcd", moves, still, marked) if side == "left" else Pair("abcd", still, moves, marked)

        for side in ("left", "right"):
            for one, other, many in ((5, 8, 40), (1, 40, 40), (40, 1, 40), (20, 8, 40), (40, 40, 40), (13, 3, 39)):
                told = self.check(noted(one, side), counted(other, side), 5)
                self.assertEqual(getattr(told, side), counter(2, many, (0, 1)))
            for one, other in ((6, 7), (3, 14), (40, 39), (9, 5), (40, 3), (37, 38)):
                with self.assertRaises(TooMany) as held:
                    drawn_back(noted(one, side), counted(other, side))
                self.assertEqual(held.exception.word, "standing")

    def test_just_41_standings(self):
        # Whether a letter b has come, the count up to it, and what is told behind it.
        def marked(many):
            moves = tuple(((p + 1) % many, many, many) for p in range(many)) + ((many, many, many),)
            triples = [(0, "a", 0), (0, "b", 0)] + [(p, "c", 0) for p in range(many + 1)]
            return Pair("abc", moves, ((0, 0, 0),), sorted(triples))

        told = ((("a",), ("b",)), (("c",), ("c",)), (("a",), ("b",)))
        just = Layer("ab", "abc", ((0, 1), (2, 2), (2, 2)), STILL, told)
        self.assertEqual(len(self.check(just, marked(38), 5).left), 40)
        with self.assertRaises(TooMany):
            drawn_back(just, marked(39))

    def test_many_ways_that_come_to_little(self):
        one = Layer("ab", "abc", STILL, counter(2, 40, (0, 1)), ((("a",) * 40, ("b",) + ("a",) * 39),))
        parity = ((0, 1, 0), (1, 0, 1))
        told = drawn_back(one, Pair("abc", parity, ((0, 0, 0),), ((1, "c", 0),)))
        self.assertEqual((told.left, told.right, told.marked), (STILL, STILL, ()))
        with self.assertRaises(TooMany):
            drawn_back(one, Pair("abc", parity, ((0, 0, 0),), ((1, "a", 0),)))

    def test_greatest_ones(self):
        told = drawn_back(counting(40, 40), Pair("ab", counter(2, 40, (0, 1)), counter(2, 40, (0, 1)), ((0, "a", 0), (0, "b", 0))))
        self.assertEqual((len(told.left), len(told.right)), (40, 40))


class PutIn(unittest.TestCase):
    def test_by_hand(self):
        b_or_a, last = (("letter", "b"), ("letter", "a"), ("or", 0, 1)), (YES, ("next", 0), ("not", 1))
        self.assertEqual(put_in("ab", "cd", (b_or_a, last), (("letter", "c"),)), b_or_a)
        self.assertEqual(put_in("ab", "cd", (b_or_a, last), (("letter", "c"), ("letter", "d"))), last)
        sheet = (("letter", "c"), ("letter", "d"), ("until", 1, 0), ("yes",), ("and", 2, 3))
        self.assertEqual(put_in(alphabet="ab", target="cd", sheets=(b_or_a, last), sheet=sheet), (
            YES, ("next", 0), ("not", 1), ("letter", "b"), ("letter", "a"), ("or", 3, 4), ("until", 2, 5), ("and", 6, 0),
        ))
        # Letters of the target that are letters of the alphabet, too, are not put in twice.
        crossed = ((("letter", "b"),), (("letter", "a"),))
        self.assertEqual(put_in("ab", "ab", crossed, read_tense("ab", "a until (b or a)")), read_tense("ab", "b until (a or b)"))
        self.assertEqual(put_in("a", "h", ((("no",),),), (("yes",),)), (YES,))

    def test_by_definition(self):
        source = chance(74)
        for _ in range(200):
            target = source.choice(("ab", "cde", "h"))
            sheets = [random_sheet(source, "ab", plainly.TENSE_FORMS, source.randint(1, 5)) for _ in target]
            sheet = random_sheet(source, target, plainly.TENSE_FORMS, source.randint(1, 6))
            passed = as_lists([sheets, sheet])
            before = copy.deepcopy(passed)
            told = put_in("ab", target, passed[0], passed[1])
            self.assertEqual(passed, before)
            self.assertTrue(is_tuples(told))
            self.assertEqual(told, put_in("ab", target, tuple(sheets), sheet))
            self.assertEqual(told, tidy(told))
            for row in rows("ab", 4):
                letters = [
                    {letter: tense_holds(given, row, len(given) - 1, place) for letter, given in zip(target, sheets)}
                    for place in range(len(row))
                ]
                wanted = tuple(holds_with(sheet, letters, len(sheet) - 1, place) for place in range(len(row)))
                self.assertEqual(tense_marks("ab", told, row), wanted, (sheets, sheet))

    def test_the_tidy_sheet_of_what_is_put_together(self):
        source = chance(75)
        for _ in range(100):
            sheets = [random_sheet(source, "ab", plainly.TENSE_FORMS, source.randint(1, 4)) for _ in "cd"]
            sheet = random_sheet(source, "cd", plainly.TENSE_FORMS, source.randint(1, 5))
            whole, lasts = [], {}
            for letter, given in zip("cd", sheets):
                begin = len(whole)
                whole += [tuple(x + begin if isinstance(x, int) else x for x in part) for part in given]
                lasts[letter] = len(whole) - 1
            led = []
            for part in sheet:
                if part[0] == "letter":
                    led.append(lasts[part[1]])
                else:
                    whole.append(tuple(led[x] if isinstance(x, int) else x for x in part))
                    led.append(len(whole) - 1)
            self.assertEqual(put_in("ab", "cd", sheets, sheet), tidy(whole[:led[-1] + 1]))

    def test_with_layers(self):
        # b where just one of the letter at the place and the one directly before it is b; a elsewhere.
        change = Layer(*CHANGE)
        turned = read_tense("ab", "b and not prev b or not b and prev b")
        sheets = (turned + (("not", len(turned) - 1),), turned)
        source = chance(76)
        for _ in range(40):
            pair = Pair.of_letters("ab", "b")
            sheet = random_sheet(source, "ab", plainly.TENSE_FORMS, 5)
            told = put_in("ab", "ab", sheets, sheet)
            for row in rows("ab", 5):
                self.assertEqual(tense_marks("ab", told, row), tense_marks("ab", sheet, change(row)))
            told = put_in("ab", "ab", sheets, (("letter", "b"),))
            for row in rows("ab", 5):
                self.assertEqual(tense_marks("ab", told, row), drawn_back(change, pair)(row))
        self.assertEqual(layer_of("ab", "ab", [change.mark_of("a"), change.mark_of("b")]), change)

    def test_6000_and_6001_parts(self):
        deep = (("letter", "a"),) + tuple(("next", k) for k in range(2999))
        other = (("letter", "b"),) + tuple(("prev", k) for k in range(2998))
        both = (("letter", "c"), ("letter", "d"), ("and", 0, 1))
        self.assertEqual(len(put_in("ab", "cd", (deep, other), both)), 6000)
        for sheets, sheet in (
            ((deep, other + (("prev", 2998),)), both), ((deep, other), both + (("not", 2),)),
            ((deep + (("not", 2999),), other), both),
        ):
            with self.assertRaises(TooMany) as held:
                put_in("ab", "cd", sheets, sheet)
            self.assertEqual(held.exception.word, "part")
        # Only what is needed counts, and each part once.
        most = (("letter", "a"),) + tuple(("next", k) for k in range(5999))
        self.assertEqual(put_in("ab", "cdefgh", (most,) * 6, (("letter", "c"), ("letter", "h"), ("letter", "d"))), most)
        nots = (("letter", "c"),) + tuple(("not", k) for k in range(5999))
        self.assertEqual(put_in("ab", "cd", ((YES,), most), nots), (YES,) + nots[1:])
        self.assertEqual(len(put_in("ab", "cd", (deep, deep), (("letter", "c"), ("letter", "d"), ("or", 0, 1)))), 3001)
        with self.assertRaises(TooMany):
            put_in("ab", "cd", (most, (YES,)), nots)

    def test_errors(self):
        sheets = ((YES,), (("letter", "a"),))
        for thing in NO_ALPHABETS:
            with self.assertRaises(BadAlphabet) as held:
                put_in(thing, None, None, None)
            self.assertIs(held.exception.thing, thing)
            with self.assertRaises(BadAlphabet) as held:
                put_in("ab", thing, None, None)
            self.assertIs(held.exception.thing, thing)
        for given in (None, 0, "ab", (), sheets[:1], sheets * 2, {0: YES, 1: YES}, "cd", [sheets[0]]):
            with self.assertRaises(BadSheets) as held:
                put_in("ab", "cd", given, None)
            self.assertEqual(held.exception.number, -1)
        for wrong in ((), None, "yes", YES, ((("letter", "c"),)), (("letter", "c"),), (YES, ("not", 1)), (YES,) * 6001, (("none",),)):
            for given, number in (((wrong, wrong), 0), ((YES,), wrong)):
                given = ((YES,), wrong) if number is wrong else given
                with self.assertRaises(BadSheets) as held:
                    put_in("ab", "cd", given, ())
                self.assertEqual(held.exception.number, 0 if given[0] is wrong else 1)
        for sheet, number in (((), -1), (None, -1), ((("letter", "a"),), 0), ((YES, ("letter", "b")), 1), ((YES,) * 6001, -1)):
            with self.assertRaises(BadSheet) as held:
                put_in("ab", "cd", sheets, sheet)
            self.assertEqual(held.exception.number, number)


def holds_with(sheet, letters, number, place):
    """Whether a part holds at a place if letter parts hold as letters tells for each place."""
    word, *rest = sheet[number]
    if word == "letter":
        return letters[place][rest[0]]

    def holds(part, at):
        return holds_with(sheet, letters, part, at)

    many = len(letters)
    if word in ("yes", "no"):
        return word == "yes"
    if word == "not":
        return not holds(rest[0], place)
    if word in ("and", "or"):
        both = [holds(part, place) for part in rest]
        return all(both) if word == "and" else any(both)
    if word == "next":
        return place + 1 < many and holds(rest[0], place + 1)
    if word == "prev":
        return place > 0 and holds(rest[0], place - 1)
    if word == "until":
        return any(holds(rest[1], m) and all(holds(rest[0], n) for n in range(place + 1, m)) for m in range(place + 1, many))
    return any(holds(rest[1], m) and all(holds(rest[0], n) for n in range(m + 1, place)) for m in range(place))


if __name__ == "__main__":
    unittest.main()
