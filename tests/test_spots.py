"""Spot readers ([34]) and ways on and back ([35])."""

import copy
import unittest

from saidhere.errors import BadLetter, BadPlace, BadRow, Ended, TooLong
from saidhere.leastpair import least
from saidhere.pairs import Pair
from saidhere.pairworks import mirrored
from saidhere.spots import Spot
from saidhere.ways import ways_back, ways_on
from tests.plainly import chance, counter, is_tuples, pair_marks, random_pair_parts, rows

LETTER = Pair.of_letters("ab", "a")
# Marked if the next letter is b.
NEXT = Pair("ab", ((0, 0),), ((1, 2), (1, 2), (1, 2)), ((0, "a", 2), (0, "b", 2)))
# The last place of a row with an even number of letters.
EVEN_END = Pair("ab", counter(2, 2, (0, 1)), ((1, 1), (1, 1)), ((1, "a", 0), (1, "b", 0)))


def possible(pair, row, place, most):
    """What the place can be in rows that begin with the row, with at most so many letters more."""
    return {pair_marks(pair, row + more)[place] for more in rows(pair.alphabet, most)}


def some_pairs(source, many, most=3):
    for number in range(many):
        alphabet = source.choice(("a", "ab", "ab", "bdh"))
        yield source.choice((LETTER, NEXT, EVEN_END)) if number % 6 == 0 else Pair(
            *random_pair_parts(source, alphabet, most))


class Spots(unittest.TestCase):
    def test_by_definition(self):
        source = chance(340)
        for pair in some_pairs(source, 60):
            further = 5 if len(pair.alphabet) < 3 else 3
            for _ in range(4):
                row = "".join(source.choices(pair.alphabet, k=source.randint(0, 7)))
                spot = Spot(pair=pair)
                known = []
                for at, letter in enumerate(row):
                    told = spot.read(letter)
                    can = [possible(pair, row[:at + 1], place, further) for place in range(at + 1)]
                    now = [None if len(some) == 2 else True in some for some in can]
                    wanted = [(k, worth) for k, worth in enumerate(now) if worth is not None and (k == at or known[k] is None)]
                    self.assertEqual(told, tuple(wanted))
                    self.assertTrue(is_tuples(told))
                    self.assertEqual((spot.letters, spot.known, spot.ended), (row[:at + 1], tuple(now), False))
                    self.assertEqual(spot.unsure, tuple(k for k, worth in enumerate(now) if worth is None))
                    known = now
                marks = pair_marks(pair, row)
                self.assertEqual(spot.end(), tuple((k, marks[k]) for k, worth in enumerate(known) if worth is None))
                self.assertEqual((spot.letters, spot.known, spot.unsure, spot.ended), (row, marks, (), True))

    def test_sure_at_once_later_and_at_the_end(self):
        spot = Spot(LETTER)
        self.assertEqual([spot.read(x) for x in "ab"], [((0, True),), ((1, False),)])
        self.assertEqual(spot.end(), ())
        spot = Spot(NEXT)
        self.assertEqual([spot.read(x) for x in "aba"], [(), ((0, True),), ((1, False),)])
        self.assertEqual((spot.unsure, spot.known), ((2,), (True, False, None)))
        self.assertEqual(spot.end(), ((2, False),))
        spot = Spot(EVEN_END)
        # The first place is never marked; the second one is not known before the end.
        self.assertEqual([spot.read(x) for x in "ab"], [((0, False),), ()])
        self.assertEqual((spot.end(), spot.known), (((1, True),), (False, True)))
        spot = Spot(Pair("ab", ((0, 0),), ((0, 1), (1, 1)), ((0, "a", 1), (0, "b", 1))))
        self.assertEqual([spot.read(x) for x in "aaab"], [(), (), (), ((0, True), (1, True), (2, True))])
        self.assertEqual(spot.end(), ((3, False),))

    def test_the_empty_row(self):
        spot = Spot(LETTER)
        self.assertEqual((spot.letters, spot.unsure, spot.known, spot.ended), ("", (), (), False))
        self.assertEqual(spot.end(), ())
        self.assertEqual((spot.letters, spot.known, spot.ended), ("", (), True))

    def test_standings_to_which_no_row_leads(self):
        # With the last standing of the right reader alone places would be marked.
        spot = Spot(Pair("a", ((0,),), ((0,), (1,)), ((0, "a", 1),)))
        self.assertEqual(spot.read("a"), ((0, False),))

    def test_errors_in_their_order(self):
        spot = Spot(NEXT)
        spot.read("a")
        before = (spot.letters, spot.unsure, spot.known, spot.ended)
        for thing in ("", "c", "ab", None, 0, True, ("a",), ["a"], b"a"):
            with self.assertRaises(BadLetter) as held:
                spot.read(thing)
            self.assertIs(held.exception.thing, thing)
        self.assertEqual((spot.letters, spot.unsure, spot.known, spot.ended), before)
        for _ in range(199):
            spot.read("a")
        with self.assertRaises(TooLong) as held:
            spot.read(letter="a")
        self.assertEqual(held.exception.number, 201)
        with self.assertRaises(BadLetter):
            spot.read("c")
        self.assertEqual((len(spot.letters), spot.unsure), (200, (199,)))
        self.assertEqual(spot.end(), ((199, False),))
        for call in (spot.end, lambda: spot.read("c"), lambda: spot.read("a")):
            with self.assertRaises(Ended):
                call()
        self.assertEqual((len(spot.letters), spot.known, spot.ended), (200, (False,) * 200, True))

    def test_copies_go_on_by_themselves(self):
        source = chance(341)
        for pair in some_pairs(source, 25):
            one = Spot(pair)
            for letter in source.choices(pair.alphabet, k=3):
                one.read(letter)
            other = one.copy()
            self.assertIsInstance(other, Spot)
            shown = (one.letters, one.unsure, one.known, one.ended)
            self.assertEqual((other.letters, other.unsure, other.known, other.ended), shown)
            for letter in source.choices(pair.alphabet, k=3):
                other.read(letter)
            other.end()
            self.assertEqual((one.letters, one.unsure, one.known, one.ended), shown)
            self.assertEqual(other.known, pair_marks(pair, other.letters))
            for letter in source.choices(pair.alphabet, k=2):
                one.read(letter)
            self.assertEqual(len(other.letters), 6)
            self.assertTrue(other.copy().ended)
            one.end()
            self.assertEqual(one.known, pair_marks(pair, one.letters))

    def test_properties_are_not_assigned(self):
        spot = Spot(LETTER)
        for name in ("letters", "unsure", "known", "ended"):
            with self.assertRaises(AttributeError):
                setattr(spot, name, None)

    def test_a_pair_is_not_changed(self):
        pair = Pair(*random_pair_parts(chance(342), "ab", 4))
        before = copy.deepcopy(vars(pair))
        spot = Spot(pair)
        spot.read("a")
        spot.end()
        self.assertEqual(vars(pair), before)

    def test_what_binds_it_to_the_ways_on(self):
        source = chance(343)
        for pair in some_pairs(source, 40, 4):
            row = "".join(source.choices(pair.alphabet, k=12))
            spot = Spot(pair)
            for letter in row:
                spot.read(letter)
            ways = [ways_on(pair, row, place) for place in range(12)]
            self.assertEqual(spot.known, tuple(None if None not in two else two[1] is None for two in ways))


class Ways(unittest.TestCase):
    def test_by_definition(self):
        source = chance(350)
        seen = set()
        for pair in some_pairs(source, 60):
            more = rows(pair.alphabet, 5 if len(pair.alphabet) < 3 else 3)
            for row in rows(pair.alphabet, 3, 1)[::2]:
                for place in range(len(row)):
                    on = {z: pair_marks(pair, row + z)[place] for z in more}
                    back = {z: pair_marks(pair, z + row)[place + len(z)] for z in more}
                    for told, ways in ((ways_on(pair, row, place), on), (ways_back(pair, row, place), back)):
                        self.assertIsInstance(told, tuple)
                        for wanted, way in zip((True, False), told):
                            short = [z for z in more if ways[z] is wanted]
                            seen.add(way is None)
                            self.assertTrue(short[0] == way if short else way is None or len(way) > len(more[-1]))
        self.assertEqual(seen, {True, False})

    def test_sure_and_open(self):
        self.assertEqual(ways_on(NEXT, "a", 0), ("b", ""))
        self.assertEqual(ways_on(NEXT, "ab", 0), ("", None))
        self.assertEqual(ways_on(NEXT, "aab", 0), (None, ""))
        self.assertEqual(ways_back(pair=NEXT, row="ab", place=0), ("", None))
        self.assertEqual(ways_on(EVEN_END, "a", 0), (None, ""))
        self.assertEqual(ways_back(EVEN_END, "a", 0), ("a", ""))
        self.assertEqual(ways_on(EVEN_END, "ab", 1), ("", "a"))
        self.assertEqual(ways_on(row="a", pair=LETTER, place=0), ("", None))

    def test_long_rows(self):
        long = Pair("a", ((0,),), counter(1, 40), ((0, "a", 39),))
        self.assertEqual(ways_on(long, "a", 0), ("a" * 39, ""))
        self.assertEqual(ways_on(long, "a" * 200, 0), ("", "a"))
        self.assertEqual(ways_on(long, "a" * 200, 199), ("a" * 39, ""))
        self.assertEqual(ways_back(mirrored(long), "a" * 41, 1), ("a" * 38, ""))

    def test_the_mirrored_pair_has_its_ways_on_where_the_pair_has_the_ways_back(self):
        source = chance(351)
        for pair in some_pairs(source, 40, 4):
            row = "".join(source.choices(pair.alphabet, k=source.randint(1, 9)))
            place = source.randrange(len(row))
            on = ways_on(mirrored(pair), row[::-1], len(row) - 1 - place)
            back = ways_back(pair, row, place)
            for one, other in zip(on, back):
                self.assertEqual(one is None, other is None)
                if one is not None:
                    self.assertEqual(len(one), len(other))
                    if len(pair.alphabet) == 1:
                        self.assertEqual(one, other)
            self.assertEqual(ways_back(least(pair), row, place), back)

    def test_errors_in_their_order(self):
        for call in (ways_on, ways_back):
            for row, at in ((None, -1), ("abx", 2), ("a" * 201, -1), (("a",), -1), (0, -1)):
                with self.assertRaises(BadRow) as held:
                    call(LETTER, row, None)
                self.assertEqual(held.exception.at, at)
            for row, place in (("", 0), ("ab", 2), ("ab", -1), ("ab", True), ("ab", None), ("ab", "0"), ("ab", (0,))):
                with self.assertRaises(BadPlace) as held:
                    call(LETTER, row, place)
                self.assertIs(held.exception.thing, place)


if __name__ == "__main__":
    unittest.main()
