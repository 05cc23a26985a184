"""Books ([10])."""

import copy
import unittest

from saidhere.books import Book
from saidhere.errors import BadAlphabet, BadCut, BadEntry, BadReader, BadSaying, BadSheet, Free, TooMany, Twice, Unknown
from tests.plainly import as_lists, is_tuples
from tests.test_plain import NO_ALPHABETS
from tests.test_sayings import CUTS, NAMED, PAIR, SAYINGS, TENSE

ENTRIES = (("t", TENSE), ("named", NAMED), ("abcdefgh", CUTS), ("zz", PAIR), ("again", TENSE))
NAMES = ("t", "named", "abcdefgh", "zz", "again")


def named(many):
    """So many entries with different names."""
    letters = "abcdefghijklmnopqrstuvwxyz"
    return tuple((letters[k % 26] + letters[k // 26], TENSE) for k in range(many))


class Books(unittest.TestCase):
    def test_attributes(self):
        book = Book("ab", ENTRIES)
        self.assertEqual((book.alphabet, book.entries, book.names), ("ab", ENTRIES, NAMES))
        book = Book(entries=(), alphabet="cdh")
        self.assertEqual((book.alphabet, book.entries, book.names), ("cdh", (), ()))
        self.assertEqual((len(book), list(book)), (0, []))

    def test_lists_become_tuples(self):
        passed = as_lists(ENTRIES)
        before = copy.deepcopy(passed)
        book = Book("ab", passed)
        self.assertEqual(passed, before)
        passed[0][1][1][0][1] = "a"
        passed[1].clear()
        passed.clear()
        self.assertEqual(book.entries, ENTRIES)
        self.assertTrue(is_tuples(book.entries) and is_tuples(book.names))
        self.assertEqual(book["t"], TENSE)

    def test_sayings_by_name(self):
        book = Book("ab", ENTRIES)
        for name, thing in ENTRIES:
            self.assertEqual(book[name], thing)
            self.assertIs(name in book, True)
        for thing in ("", "T", "tt", "a", "abcdefghi", None, 0, True, -1, b"t", ("t",), ["t"], {}, [], 1.5, book, slice(0, 1), TENSE):
            with self.assertRaises(Unknown) as held:
                book[thing]
            self.assertIs(held.exception.name, thing)
            self.assertIs(thing in book, False)
        with self.assertRaises(Unknown):
            Book("ab", ())["t"]

    def test_iteration(self):
        book = Book("ab", ENTRIES)
        self.assertEqual(tuple(book), NAMES)
        self.assertEqual([(one, other) for one in book for other in book], [(x, y) for x in NAMES for y in NAMES])
        self.assertEqual(len(book), 5)
        # What is passed is no part of the book.
        listed = list(book)
        listed.clear()
        self.assertEqual(len(book), 5)

    def test_equal(self):
        book = Book("ab", ENTRIES)
        self.assertEqual(book, Book("ab", as_lists(ENTRIES)))
        self.assertIs(book == Book("ab", ENTRIES), True)
        for other in (
            Book("abc", ENTRIES[:3]), Book("ab", ENTRIES[:4]), Book("ab", ENTRIES[::-1]), Book("ab", (("s", TENSE),) + ENTRIES[1:]),
            Book("ab", (("t", ("tense", (("yes",),))),) + ENTRIES[1:]), ENTRIES, "ab", None, 0, {"ab": ENTRIES}, NAMES,
        ):
            self.assertIs(book == other, False)
            self.assertIs(book != other, True)
        self.assertIs(Book("ab", ENTRIES[:3]) == Book("abc", ENTRIES[:3]), False)
        self.assertIs(Book("ab", ()) == Book("ac", ()), False)

    def test_40_and_41_entries(self):
        book = Book("ab", named(40))
        self.assertEqual(len(book), 40)
        self.assertEqual(book["nb"], TENSE)
        with self.assertRaises(TooMany) as held:
            Book("ab", named(41))
        self.assertEqual(held.exception.word, "entry")


class Wrong(unittest.TestCase):
    def bad(self, error, entries, alphabet="ab"):
        with self.assertRaises(error) as held:
            Book(alphabet, entries)
        return held.exception

    def test_the_alphabet_goes_ahead(self):
        for alphabet in NO_ALPHABETS:
            self.assertIs(self.bad(BadAlphabet, None, alphabet).thing, alphabet)

    def test_no_entries(self):
        for entries in (None, 0, True, "", "ab", {}, {"t": TENSE}, b"", {("t", TENSE)}, Book("ab", ENTRIES)):
            self.assertEqual(self.bad(BadEntry, entries).number, -1)
        for entry in (
            (), ("s",), ("s", TENSE, TENSE), None, "st", "s", 0, ("", TENSE), ("abcdefghi", TENSE), ("A", TENSE), ("a b", TENSE),
            ("a1", TENSE), ("\u00e4", TENSE), (None, TENSE), (0, TENSE), (True, TENSE), (b"s", TENSE), (("s",), TENSE),
            (["s"], TENSE), {"s": 1, "t": 2}, (TENSE, "s"), ("s\n", TENSE),
        ):
            for entries in (ENTRIES + (entry, "wrong"), [("t", "wrong"), ("t", None), *ENTRIES[2:], entry]):
                self.assertEqual(self.bad(BadEntry, entries).number, 5, entry)
        self.assertEqual(Book("ab", (("abcdefgh", TENSE),)).names, ("abcdefgh",))

    def test_order_of_errors(self):
        many = named(40)
        # No pair, then too many, then a name that is there, then what is wrong in a saying.
        self.assertEqual(self.bad(BadEntry, many + (("t", TENSE), None)).number, 41)
        self.assertEqual(self.bad(BadEntry, (("t", None),) * 50 + (("", None),)).number, 50)
        self.assertEqual(self.bad(TooMany, (("t", None),) * 41).word, "entry")
        self.assertEqual(self.bad(Twice, (("t", None),) * 40).name, "t")
        entries = (("x", None), ("s", TENSE), ("t", None), ("t", TENSE), ("s", TENSE))
        self.assertEqual(self.bad(Twice, entries).name, "t")
        self.assertIs(self.bad(BadSaying, entries[:3]).thing, None)

    def test_wrong_sayings(self):
        for thing, error in (
            (("tense", ()), BadSheet), (("named", (("less", "x", "y"),)), Free), (("cuts", CUTS[1], ((9, "a", 0),)), BadCut),
            (("pair", (), (), ()), BadReader), (("cuts", CUTS[1]), BadSaying), ("tense", BadSaying), (("tense", (("letter", "c"),)), BadSheet),
            (("named", (("less", "u", "v"), ("less", "w", "x"), ("less", "y", "z"))), TooMany),
        ):
            self.bad(error, ENTRIES + (("x", thing), ("y", None)))
            self.bad(error, [["x", thing], ["y", ("pair",)]])
        for alphabet in ("a", "cd"):
            self.assertIn(self.bad(BadSheet, ENTRIES, alphabet).number, (0,))

    def test_all_kinds_stand_in_one_book(self):
        self.assertEqual(Book("ab", tuple(zip("stuv", SAYINGS))).names, ("s", "t", "u", "v"))


if __name__ == "__main__":
    unittest.main()
