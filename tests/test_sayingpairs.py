"""The pairs of sayings and of books ([22] with [10])."""

import copy
import unittest

from saidhere.books import Book
from saidhere.errors import BadAlphabet, BadCut, BadMarked, BadReader, BadSaying, BadSheet, Free, TooMany
from saidhere.leastpair import least
from saidhere.pairs import Pair
from saidhere.sayingpairs import pair_of, pairs_of_book
from tests.plainly import NAMED_FORMS, SET_FORMS, TENSE_FORMS, as_lists, chance, cut_holds, named_holds, pair_marks, random_pair_parts
from tests.plainly import random_sheet, rows, tense_holds
from tests.test_namedin import behind
from tests.test_plain import NO_ALPHABETS
from tests.test_sayings import SAYINGS
from tests.test_setsin import word
from tests.test_tensein import chain


def random_saying(source, alphabet, kind):
    """A saying of a kind by chance, and what it says of the places of a row, by definition."""
    if kind == "tense":
        sheet = random_sheet(source, alphabet, TENSE_FORMS, source.randint(1, 7))
        return (kind, sheet), lambda row: tuple(tense_holds(sheet, row, len(sheet) - 1, k) for k in range(len(row)))
    if kind == "named":
        inner = random_sheet(source, alphabet, NAMED_FORMS, source.randint(1, 7), "xy")
        sheet = inner + (("some", "y", len(inner) - 1),)
        return (kind, sheet), lambda row: tuple(named_holds(sheet, row, len(sheet) - 1, {"x": k}) for k in range(len(row)))
    if kind == "cuts":
        sheet = random_sheet(source, alphabet, SET_FORMS, source.randint(1, 7))
        number = range(len(sheet))
        cuts = tuple((source.choice(number), source.choice(alphabet), source.choice(number)) for _ in range(source.randint(0, 4)))
        return (kind, sheet, cuts), lambda row: tuple(cut_holds(sheet, cuts, row, k) for k in range(len(row)))
    parts = random_pair_parts(source, alphabet, 3)
    return (kind,) + parts[1:], lambda row: pair_marks(Pair(*parts), row)


class PairOf(unittest.TestCase):
    def test_by_definition(self):
        source = chance(430)
        for kind in ("tense", "named", "cuts", "pair") * 30:
            alphabet = source.choice(("a", "ab", "bdh"))
            thing, telling = random_saying(source, alphabet, kind)
            pair = pair_of(alphabet, thing)
            self.assertIsInstance(pair, Pair)
            self.assertEqual(pair.alphabet, alphabet)
            self.assertEqual(least(pair), pair)
            for row in rows(alphabet, 5 if len(alphabet) < 3 else 3):
                self.assertEqual(pair_marks(pair, row), telling(row))
            self.assertEqual(pair_of(thing=as_lists(thing), alphabet=alphabet), pair)

    def test_one_mark_in_four_tongues(self):
        # A letter b comes behind the place.
        sayings = (
            ("tense", (("letter", "b"), ("yes",), ("until", 1, 0))),
            ("named", (("letter", "b", "y"), ("less", "x", "y"), ("and", 0, 1), ("some", "y", 2))),
            ("cuts", (("none",), ("not", 0), ("letter", "b"), ("then", 1, 2), ("then", 3, 1)), ((1, "a", 4), (1, "b", 4))),
            ("pair", ((0, 0),), ((0, 1), (1, 1), (2, 2)), ((0, "a", 1), (0, "b", 1))),
        )
        wanted = Pair("ab", ((0, 0),), ((0, 1), (1, 1)), ((0, "a", 1), (0, "b", 1)))
        for thing in sayings:
            self.assertEqual(pair_of("ab", thing), wanted)

    def test_too_many(self):
        for alphabet, good, bad in (
            ("a", ("tense", chain("next", 39)), ("tense", chain("next", 40))), ("a", ("named", behind(39)), ("named", behind(40))),
            ("a", ("named", behind(57) + (("yes",),)), ("named", behind(58) + (("yes",),))),
            ("a", ("cuts", word("a" * 38), ((37, "a", 0),)), ("cuts", word("a" * 39), ((38, "a", 0),))),
            ("a", ("cuts", word("a" * 58), ()), ("cuts", word("a" * 59), ())),
        ):
            pair_of(alphabet, good)
            with self.assertRaises(TooMany) as held:
                pair_of(alphabet, bad)
            self.assertEqual(held.exception.word, "standing")

    def test_errors(self):
        for thing in NO_ALPHABETS:
            with self.assertRaises(BadAlphabet) as held:
                pair_of(thing, None)
            self.assertIs(held.exception.thing, thing)
        for thing in (None, 0, (), "tense", ("Tense", (("yes",),)), ("tense",), ("cuts", (("none",),)), ("pair", ((0, 0),), ((0, 0),)), ("named", (), ())):
            with self.assertRaises(BadSaying) as held:
                pair_of("ab", thing)
            self.assertIs(held.exception.thing, thing)
        for thing, error in (
            (("tense", ()), BadSheet), (("named", (("less", "x", "y"),)), Free), (("named", (("next", 0),)), BadSheet),
            (("cuts", (("yes",),), None), BadSheet), (("cuts", (("none",),), None), BadCut), (("pair", (), (), None), BadReader),
            (("pair", ((0, 0),), ((0, 0),), None), BadMarked),
        ):
            with self.assertRaises(error):
                pair_of("ab", thing)


class PairsOfBook(unittest.TestCase):
    def test_each_entry(self):
        book = Book("ab", tuple((f"n{'abcd'[k]}", thing) for k, thing in enumerate(SAYINGS)))
        told = pairs_of_book(book=book)
        self.assertIsInstance(told, tuple)
        self.assertEqual(list(told), [pair_of("ab", thing) for _, thing in book.entries])
        self.assertEqual(pairs_of_book(Book("ab", ())), ())

    def test_order(self):
        source = chance(431)
        for _ in range(10):
            entries = tuple((name, random_saying(source, "ab", source.choice(("tense", "named", "cuts", "pair")))[0]) for name in "zxay")
            book = Book("ab", entries)
            before = copy.deepcopy(book.entries)
            self.assertEqual(list(pairs_of_book(book)), [pair_of("ab", thing) for _, thing in entries])
            self.assertEqual(book.entries, before)

    def test_too_many(self):
        entries = (("a", ("tense", (("yes",),))), ("b", ("tense", chain("prev", 40))), ("c", ("tense", (("no",),))))
        with self.assertRaises(TooMany) as held:
            pairs_of_book(Book("a", entries))
        self.assertEqual(held.exception.word, "standing")


if __name__ == "__main__":
    unittest.main()
