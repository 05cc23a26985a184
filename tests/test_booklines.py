"""Books as lines ([11], with [8], [9], [10])."""

import types
import unittest

from saidhere.booklines import read_book, taken_up, write_book
from saidhere.books import Book
from saidhere.errors import BadAlphabet, BadLine, BadMarked, BadReader, BadSheet, BadText, Free, SaidError, TooLong, TooMany, Twice
from saidhere.meaning import cut_marks
from saidhere.tidying import tidy_named, tidy_set, tidy_tense
from tests.plainly import NAMED_FORMS, SET_FORMS, TENSE_FORMS, chance, cut_holds, is_tuples, random_pair_parts, random_sheet, rows
from tests.test_plain import NO_ALPHABETS

EXAMPLE = tuple("""book ab
tense lastb b and not next yes
cuts alone
cut b
ahead empty
behind not (not none then b then not none)
pair even
left 1 0
left 0 1
right 0 0
mark 0 a 0
mark 0 b 0""".split("\n"))
LETTERS = "abcdefghijklmnopqrstuvwxyz"


def random_book(source):
    """A book by chance, all sheets of which can be written."""
    alphabet = source.choice(("a", "ab", "bdh"))
    entries = []
    for k in range(source.randint(0, 5)):
        name = LETTERS[k] + source.choice(("", "a", "zzzzzzz"))
        kind = source.choice(("tense", "named", "cuts", "pair"))
        if kind == "tense":
            entries.append((name, (kind, random_sheet(source, alphabet, TENSE_FORMS, source.randint(1, 6)))))
        elif kind == "named":
            inner = random_sheet(source, alphabet, NAMED_FORMS, source.randint(1, 5), "xy")
            entries.append((name, (kind, inner + (("some", "y", len(inner) - 1),))))
        elif kind == "cuts":
            sheet = random_sheet(source, alphabet, SET_FORMS, source.randint(1, 6))
            number = range(len(sheet))
            cuts = tuple((source.choice(number), source.choice(alphabet), source.choice(number)) for _ in range(source.randint(0, 3)))
            entries.append((name, (kind, sheet, cuts)))
        else:
            entries.append((name, (kind,) + random_pair_parts(source, alphabet, 3)[1:]))
    return Book(alphabet, entries)


def pair_lines(many):
    """The lines of a pair with so many left standings."""
    return ("pair p",) + tuple(f"left {min(k, 39)} {k // 2}" for k in range(many)) + ("right 0 0",)


class ReadBook(unittest.TestCase):
    def wrong(self, lines, line, word, cause=None):
        with self.assertRaises(BadLine) as held:
            read_book(lines)
        self.assertEqual((held.exception.line, held.exception.word), (line, word), lines)
        self.assertEqual(type(held.exception.__cause__), cause or type(None))
        return held.exception.__cause__

    def test_the_example(self):
        book = read_book(EXAMPLE)
        self.assertIsInstance(book, Book)
        self.assertEqual((book.alphabet, book.names), ("ab", ("lastb", "alone", "even")))
        self.assertEqual(book["lastb"], ("tense", (("letter", "b"), ("yes",), ("next", 1), ("not", 2), ("and", 0, 3))))
        sheet = (("empty",), ("none",), ("not", 1), ("letter", "b"), ("then", 2, 3), ("then", 4, 2), ("not", 5))
        self.assertEqual(book["alone"], ("cuts", sheet, ((0, "b", 6),)))
        self.assertEqual(book["even"], ("pair", ((1, 0), (0, 1)), ((0, 0),), ((0, "a", 0), (0, "b", 0))))
        self.assertEqual(read_book(lines=list(EXAMPLE)), book)
        self.assertTrue(is_tuples(book.entries))

    def test_small_books(self):
        self.assertEqual(read_book(("book abcdefgh",)), Book("abcdefgh", ()))
        self.assertEqual(read_book(["book c", "cuts none"]).entries, (("none", ("cuts", (("none",),), ())),))
        self.assertEqual(read_book(("book a", "cuts x", "cuts y", "cuts book")).names, ("x", "y", "book"))
        book = read_book(("book a", "named n yes", "tense t a until a", "pair p", "left 0", "right 1", "right 0", "cuts c"))
        self.assertEqual(book["n"], ("named", (("yes",),)))
        self.assertEqual(book["t"], ("tense", (("letter", "a"), ("until", 0, 0))))
        self.assertEqual(book["p"], ("pair", ((0,),), ((1,), (0,)), ()))
        self.assertEqual(len(book), 4)

    def test_the_sheet_of_cuts(self):
        # The parts of all texts in the order of the lines, each part once.
        book = read_book(("book ab", "cuts c", "cut a", "ahead a then b", "behind b or a", "cut b", "ahead empty", "behind a then b"))
        sheet = (("letter", "a"), ("letter", "b"), ("then", 0, 1), ("or", 1, 0), ("empty",))
        self.assertEqual(book["c"], ("cuts", sheet, ((2, "a", 3), (4, "b", 2))))
        book = read_book(("book ab", "cuts c", "cut a", "ahead b", "behind b", "cut a", "ahead b", "behind b"))
        self.assertEqual(book["c"], ("cuts", (("letter", "b"),), ((0, "a", 0), (0, "a", 0))))

    def test_written_and_read(self):
        source = chance(370)
        for _ in range(120):
            book = random_book(source)
            lines = list(write_book(book))
            again = read_book(lines)
            self.assertEqual((again.alphabet, again.names), (book.alphabet, book.names))
            self.assertEqual(list(write_book(again)), lines)
            for (_, one), (_, other) in zip(book.entries, again.entries):
                self.assertEqual(one[0], other[0])
                if one[0] == "cuts":
                    self.assertEqual(tuple(a for _, a, _ in one[2]), tuple(a for _, a, _ in other[2]))
                    for row in rows(book.alphabet, 3):
                        wanted = tuple(cut_holds(one[1], one[2], row, place) for place in range(len(row)))
                        self.assertEqual(cut_marks(book.alphabet, other[1], other[2], row), wanted)
                    for (i, _, j), (k, _, m) in zip(one[2], other[2]):
                        for part, copy in ((i, k), (j, m)):
                            self.assertEqual(tidy_set(book.alphabet, one[1][:part + 1]), tidy_set(book.alphabet, other[1][:copy + 1]))
                elif one[0] == "pair":
                    self.assertEqual(one, other)
                else:
                    tidy = tidy_tense if one[0] == "tense" else tidy_named
                    self.assertEqual(other[1], tidy(book.alphabet, one[1]))

    def test_no_lines(self):
        for thing in (None, 0, True, "book ab", {}, {"book ab": 1}, 1.5, Book("ab", ())):
            self.wrong(thing, -1, 0)

    def test_lines_that_end_too_early(self):
        self.wrong((), 0, 0)
        self.wrong([], 0, 0)
        whole = {1, 2, 3, 6, 10, 11, 12}
        for many in range(13):
            if many in whole:
                self.assertEqual(len(read_book(EXAMPLE[:many])), {1: 0, 2: 1, 3: 2, 6: 2}.get(many, 3))
            else:
                self.wrong(EXAMPLE[:many], many, 0)

    def test_first_words_that_cannot_come(self):
        starts = {
            (): {"book"},
            ("book ab",): {"tense", "named", "cuts", "pair"},
            ("book ab", "tense t yes"): {"tense", "named", "cuts", "pair"},
            ("book ab", "named t yes"): {"tense", "named", "cuts", "pair"},
            ("book ab", "cuts c"): {"cut", "tense", "named", "cuts", "pair"},
            ("book ab", "cuts c", "cut a"): {"ahead"},
            ("book ab", "cuts c", "cut a", "ahead none"): {"behind"},
            ("book ab", "cuts c", "cut a", "ahead none", "behind a"): {"cut", "tense", "named", "cuts", "pair"},
            ("book ab", "pair p"): {"left"},
            ("book ab", "pair p", "left 0 0"): {"left", "right"},
            ("book ab", "pair p", "left 0 0", "right 0 0"): {"right", "mark", "tense", "named", "cuts", "pair"},
            ("book ab", "pair p", "left 0 0", "right 0 0", "mark 0 a 0"): {"mark", "tense", "named", "cuts", "pair"},
        }
        rests = {
            "book": "ab", "tense": "u yes", "named": "u yes", "cuts": "u", "cut": "a", "ahead": "none", "behind": "none", "pair": "u",
            "left": "0 0", "right": "0 0", "mark": "0 b 0",
        }
        more = {"cut": ("ahead none", "behind none"), "ahead": ("behind none",), "pair": ("left 0 0", "right 0 0"), "left": ("right 0 0",)}
        for lines, good in starts.items():
            for word, rest in rests.items():
                line = f"{word} {rest}"
                if word in good:
                    self.assertIsInstance(read_book(lines + (line,) + more.get(word, ())), Book)
                else:
                    self.wrong(lines + (line,), len(lines), 0)
                    self.wrong(lines + (word,), len(lines), 0)
            for line in ("", " ", "x", "Book ab", "book: ab", " book ab", "a", "0", "tenses t yes", "mark,", "left0 0"):
                self.wrong(lines + (line,), len(lines), 0)
            for line in (None, 0, True, ("cuts", "c"), ["cuts c"], b"cuts c", {}):
                self.wrong(lines + (line,), len(lines), 0)
                self.wrong(list(lines) + [line, "book ab"], len(lines), 0)

    def test_the_first_line(self):
        self.wrong(("book",), 0, 1)
        for word in ("", "ba", "aa", "i", "abcdefghi", "A", "book", "0", "a-", "x"):
            self.wrong((f"book {word}",), 0, 1)
            self.wrong((f"book {word} b",), 0, 1)
        self.wrong(("book ab ",), 0, 2)
        self.wrong(("book ab c",), 0, 2)
        self.wrong(("book  ab",), 0, 1)
        self.wrong((" book ab",), 0, 0)
        self.assertEqual([read_book((f"book {word}",)).alphabet for word in ("a", "h", "abcdefgh", "bdf")], ["a", "h", "abcdefgh", "bdf"])
        for thing in NO_ALPHABETS:
            if isinstance(thing, str) and " " not in thing:
                self.wrong((f"book {thing}",), 0, 1)

    def test_names(self):
        for word, rest in (("tense", " yes"), ("named", " yes"), ("cuts", ""), ("pair", "")):
            self.wrong(("book ab", word), 1, 1)
            for name in ("", "A", "a1", "abcdefghi", "a-b", "a,", "0", "_"):
                self.wrong(("book ab", f"{word} {name}{rest}"), 1, 1)
            self.wrong(("book ab", f"{word}  a{rest}"), 1, 1)
        for word in ("cuts", "pair"):
            self.wrong(("book ab", f"{word} a "), 1, 2)
            self.wrong(("book ab", f"{word} a b"), 1, 2)
            self.wrong(("book ab", f"{word} a  "), 1, 2)

    def test_texts(self):
        for word, text, at in (
            ("tense t", "", 0), ("tense t", " yes", 0), ("tense t", "yes ", 4), ("tense t", "a  and b", 2), ("tense t", "yes no", 4),
            ("tense t", "c", 0), ("tense t", "not", 3), ("tense t", "a at x", 2), ("tense t", "(a", 2), ("named t", "a", 1),
            ("named t", "some a yes", 5), ("named t", "", 0), ("named t", "x <", 3), ("tense t", "not " * 31 + "a", 120),
        ):
            cause = self.wrong(("book ab", f"{word} {text}", "tense"), 1, 2, BadText)
            self.assertEqual(cause.at, at)
        for word in ("tense t", "named t"):
            self.wrong(("book ab", word), 1, 2)
        head = ("book ab", "cuts c", "cut a")
        for word, ahead in (("ahead", head), ("behind", head + ("ahead none",))):
            self.wrong(ahead + (word,), len(ahead), 1)
            for text, at in (("", 0), ("yes", 0), (" a", 0), ("a then", 6), ("a or or", 5), ("c", 0), ("none  or a", 5)):
                cause = self.wrong(ahead + (f"{word} {text}",), len(ahead), 1, BadText)
                self.assertEqual(cause.at, at)

    def test_too_many_names_in_a_text(self):
        text = "some u some v some w some y (x = u or v = w)"
        cause = self.wrong(("book ab", "named n " + text), 1, 2, TooMany)
        self.assertEqual(cause.word, "name")
        read_book(("book ab", "named n " + text.replace("some u ", "").replace("x = u", "x = y")))

    def test_long_texts(self):
        text = "a or " * 412 + "b"
        self.assertGreater(len(text), 2000)
        book = read_book(("book ab", "tense t " + text))
        self.assertEqual(len(book["t"][1]), 414)

    def test_cut_lines(self):
        self.wrong(("book ab", "cuts c", "cut"), 2, 1)
        for letter in ("", "c", "ab", "A", "0", "none"):
            self.wrong(("book ab", "cuts c", f"cut {letter}"), 2, 1)
        self.wrong(("book ab", "cuts c", "cut a "), 2, 2)
        self.wrong(("book ab", "cuts c", "cut a b"), 2, 2)

    def test_standings(self):
        head = ("book ab", "pair p")
        for word, ahead in (("left", head), ("right", head + ("left 0 0",))):
            line = len(ahead)
            self.wrong(ahead + (word,), line, 1)
            self.wrong(ahead + (f"{word} 0",), line, 2)
            self.wrong(ahead + (f"{word} 0 0 0",), line, 3)
            self.wrong(ahead + (f"{word} 0 0 ",), line, 3)
            self.wrong(ahead + (f"{word}  0 0",), line, 1)
            self.wrong(ahead + (f"{word} 0  0",), line, 2)
            for number in ("40", "41", "100", "-1", "+1", "00", "01", "039", "1.0", "a", "1e1", "0x1", "", "1" * 60):
                self.wrong(ahead + (f"{word} {number} 0",), line, 1)
                self.wrong(ahead + (f"{word} 39 {number}",), line, 2)
                self.wrong(ahead + (f"{word} {number} {number} {number}",), line, 1)

    def test_marks(self):
        head = ("book ab", "pair p", "left 0 0", "right 0 0")
        for line, at in (
            ("mark", 1), ("mark 0", 2), ("mark 0 a", 3), ("mark 0 a 0 0", 4), ("mark 0 a 0 ", 4), ("mark 40 a 0", 1), ("mark 00 a 0", 1),
            ("mark 0 c 0", 2), ("mark 0 0 0", 2), ("mark 0 ab 0", 2), ("mark 0 a 40", 3), ("mark 0 a -0", 3), ("mark a 0 a", 1),
            ("mark  0 a 0", 1), ("mark 0  a 0", 2), ("mark 0 a  0", 3), ("mark c", 1), ("mark 0 c", 2),
        ):
            self.wrong(head + (line,), 4, at)
        self.wrong(head + ("mark 0 a 0", "mark 0 a"), 5, 3)

    def test_own_errors_come_last(self):
        def told(error, *lines):
            with self.assertRaises(error) as held:
                read_book(("book ab",) + lines)
            self.assertEqual(type(held.exception), error)
            # With a bad line behind all others, this is what is told.
            with self.assertRaises(BadLine):
                read_book(("book ab",) + lines + ("x",))
            return held.exception

        self.assertEqual(told(Twice, "cuts c", "tense t yes", "cuts c").name, "c")
        self.assertEqual(told(Free, "named n a at y").name, "y")
        self.assertEqual(told(Free, "named n x < z and u < y").name, "u")
        held = told(BadReader, "pair p", "left 0 1", "right 0 0")
        self.assertEqual((held.side, held.number), ("left", 0))
        held = told(BadReader, "pair p", "left 0 0", "right 0 0", "right 39 0")
        self.assertEqual((held.side, held.number), ("right", 1))
        self.assertEqual(told(BadMarked, "pair p", "left 0 0", "right 0 0", "mark 0 a 0", "mark 0 a 0").number, 1)
        self.assertEqual(told(BadMarked, "pair p", "left 0 0", "right 0 0", "mark 39 a 0").number, 0)
        held = told(BadReader, *pair_lines(41))
        self.assertEqual((held.side, held.number), ("left", -1))
        self.assertEqual(len(read_book(("book ab",) + pair_lines(40))["p"][1]), 40)
        # Names go ahead of the sayings.
        self.assertEqual(told(Twice, "pair p", "left 1 1", "right 0 0", "cuts p").name, "p")

    def test_a_sheet_of_cuts_of_too_many_parts(self):
        source = chance(371)
        lines = []
        for _ in range(130):
            text = " then ".join(source.choice("ab") for _ in range(230))
            lines += ["cut a", f"ahead {text}", f"behind {text}"]
        with self.assertRaises(BadSheet) as held:
            read_book(("book ab", "cuts c", *lines))
        self.assertEqual(held.exception.number, -1)
        self.assertEqual(taken_up(("book ab", "cuts c", *lines))[1] % 3, 2)

    def test_forty_entries(self):
        lines = [f"cuts {a}{b}" for a in "ab" for b in LETTERS]
        self.assertEqual(len(read_book(["book a"] + lines[:40])), 40)
        with self.assertRaises(TooMany) as held:
            read_book(["book a"] + lines[:41])
        self.assertEqual(held.exception.word, "entry")
        with self.assertRaises(TooMany):
            read_book(["book a"] + lines[:40] + ["cuts aa"])

    def test_nothing_is_changed(self):
        lines = list(EXAMPLE)
        read_book(lines)
        taken_up(lines)
        self.assertEqual(lines, list(EXAMPLE))


class WriteBook(unittest.TestCase):
    def test_the_example(self):
        told = write_book(book=read_book(EXAMPLE))
        self.assertIsInstance(told, types.GeneratorType)
        self.assertEqual(tuple(told), EXAMPLE)

    def test_no_entries(self):
        self.assertEqual(list(write_book(Book("abcdefgh", ()))), ["book abcdefgh"])

    def test_parts_that_no_text_needs(self):
        sheet = (("none",), ("letter", "a"), ("not", 1), ("not", 0))
        book = Book("ab", (("t", ("cuts", sheet, ((3, "b", 1), (2, "a", 3)))), ("u", ("cuts", sheet, ()))))
        lines = ["book ab", "cuts t", "cut b", "ahead not none", "behind a", "cut a", "ahead not a", "behind not none", "cuts u"]
        self.assertEqual(list(write_book(book)), lines)
        again = read_book(lines)
        self.assertEqual(again["t"], ("cuts", (("none",), ("not", 0), ("letter", "a"), ("not", 2)), ((1, "b", 2), (3, "a", 1))))
        self.assertEqual(again["u"], ("cuts", (("none",),), ()))

    def test_large_pairs(self):
        moves = tuple((39 - k, k) for k in range(40))
        book = Book("bh", (("p", ("pair", moves, moves, ((0, "h", 39), (39, "b", 0)))),))
        lines = list(write_book(book))
        self.assertEqual(len(lines), 84)
        self.assertEqual((lines[2], lines[81], lines[82]), ("left 39 0", "right 0 39", "mark 0 h 39"))
        self.assertEqual(read_book(lines), book)

    def test_texts_that_cannot_be_written(self):
        long = (("letter", "a"),) + tuple(("and", k, k) for k in range(9))
        deep = (("letter", "a"),) + tuple(("not", k) for k in range(31))
        sets = (("letter", "a"),) + tuple(("then", k, k) for k in range(9))
        for entry, error, ahead in (
            (("tense", long), TooLong, 2), (("tense", deep), TooMany, 2), (("named", (("yes",),) + deep[1:]), TooMany, 2),
            (("cuts", sets, ((0, "a", 9),)), TooLong, 5), (("cuts", sets, ((9, "a", 0),)), TooLong, 4),
        ):
            book = Book("ab", (("good", ("tense", (("yes",),))), ("bad", entry)))
            told = write_book(book)
            lines = [next(told) for _ in range(ahead)]
            self.assertEqual(lines[:2], ["book ab", "tense good yes"])
            with self.assertRaises(error) as held:
                next(told)
            if error is TooMany:
                self.assertEqual(held.exception.word, "bracket")
            else:
                self.assertGreater(held.exception.number, 2000)
        # What no text needs does no harm.
        self.assertEqual(list(write_book(Book("ab", (("c", ("cuts", sets, ((0, "a", 0),))),)))), ["book ab", "cuts c", "cut a", "ahead a", "behind a"])


class TakenUp(unittest.TestCase):
    def plainly(self, lines):
        for many in range(len(lines), 0, -1):
            try:
                return read_book(lines[:many]), many
            except SaidError:
                pass
        return None

    def test_torn_lines(self):
        self.assertIsNone(taken_up(()))
        self.assertIsNone(taken_up([]))
        self.assertEqual([(taken_up(EXAMPLE[:many]) or (None, 0))[1] for many in range(13)], [0, 1, 2, 3, 3, 3, 6, 6, 6, 6, 10, 11, 12])
        for many in range(1, 13):
            self.assertEqual(taken_up(lines=list(EXAMPLE[:many])), self.plainly(EXAMPLE[:many]))
        self.assertIsInstance(taken_up(EXAMPLE), tuple)
        self.assertEqual(taken_up(EXAMPLE)[0], read_book(EXAMPLE))

    def test_torn_within_a_line(self):
        whole = "\n".join(EXAMPLE)
        for size in range(len(whole)):
            lines = tuple(whole[:size].split("\n"))
            self.assertEqual(taken_up(lines), self.plainly(lines))

    def test_by_definition(self):
        source = chance(372)
        for _ in range(150):
            lines = [line for _ in range(source.randint(1, 2)) for line in list(write_book(random_book(source)))[source.randint(0, 1):]]
            lines = ["book " + source.choice(("ab", "a", "bdh"))] + lines
            for _ in range(source.randint(0, 2)):
                at = source.randrange(len(lines))
                kind = source.randrange(4)
                if kind == 0:
                    del lines[at]
                elif kind == 1:
                    lines.insert(at, source.choice(lines))
                elif kind == 2:
                    lines[at] = lines[at].replace("0", "1", 1)
                else:
                    lines[at] = source.choice((None, "", lines[at] + " ", lines[at][:-1]))
            self.assertEqual(taken_up(lines), self.plainly(lines), lines)

    def test_errors_of_the_book(self):
        # Only with its last move the reader is one.
        lines = ("book ab", "tense t yes", "pair p", "left 1 2", "left 0 0", "right 0 0", "cuts c")
        self.assertEqual(taken_up(lines), self.plainly(lines))
        self.assertEqual(taken_up(lines)[1], 2)
        lines = ("book ab", "pair p", "left 0 0", "right 0 1", "right 0 0", "mark 0 a 0", "mark 0 a 0", "cuts c")
        self.assertEqual(taken_up(lines)[1], 6)
        lines = ("book ab", "cuts c", "tense d yes", "cuts c", "cuts e")
        self.assertEqual(taken_up(lines)[1], 3)
        lines = ("book ab", "named n x = y", "cuts c")
        self.assertEqual(taken_up(lines), (Book("ab", ()), 1))
        lines = ["book a"] + [f"cuts {a}{b}" for a in "ab" for b in LETTERS]
        self.assertEqual(taken_up(lines)[1], 41)
        lines = ["book ab", "pair p", "left 0 2", "left 0 0", "right 0 0", "mark 0 a 0"]
        self.assertEqual(taken_up(lines)[1], 1)

    def test_none(self):
        for lines in ((), ("",), ("book",), ("book ba", "cuts c"), (None,), ("cuts c", "book ab"), (" book ab",)):
            self.assertIsNone(taken_up(lines))
        for thing in (None, 0, True, "book ab", {}, {"book ab": 1}, 1.5, Book("ab", ())):
            self.assertIsNone(taken_up(thing))
        with self.assertRaises(BadAlphabet):
            Book("ba", ())

    def test_long_books_are_quick(self):
        text = "a or " * 412 + "b"
        lines = ["book ab"] + [f"tense {a}{b} {text}" for a in "ab" for b in LETTERS][:39] + ["pair p", "left 5 5", "right 0 0"] + ["mark 0 a 0"] * 350
        self.assertEqual(taken_up(lines)[1], 40)


if __name__ == "__main__":
    unittest.main()
