"""Texts of the three kinds of sheets ([8], [9])."""

import copy
import itertools
import unittest

from saidhere.errors import BadAlphabet, BadSheet, BadText, TooLong, TooMany
from saidhere.namedtext import read_named, write_named
from saidhere.settext import read_set, write_set
from saidhere.tensetext import read_tense, write_tense
from tests import plainly
from tests.plainly import as_lists, bad_at, bracketed, chance, is_tuples, random_sheet, tidy, tree
from tests.test_plain import NO_ALPHABETS

YES = ("yes",)
NO_TEXTS = (None, 0, True, b"a", ("a",), ["a"], {"a": 1}, 1.5, object())
TENSE = (read_tense, write_tense, plainly.TENSE_RULES, plainly.TENSE_FORMS)
NAMED = (read_named, write_named, plainly.NAMED_RULES, plainly.NAMED_FORMS)
SETS = (read_set, write_set, plainly.SET_RULES, plainly.SET_FORMS)
KINDS = (TENSE, NAMED, SETS)
WORDS = {
    read_tense: ["a", "yes", "not", "prev", "or", "until", "since", "(", ")", " ", "c", "then"],
    read_named: ["a", "x", "at", "yes", "some", "and", "<", "(", ")", " ", "not", "t"],
    read_set: ["b", "none", "not", "or", "then", "(", ")", " ", "yes", "an"],
}


def read_at(reading, text, alphabet="ab"):
    """Where a text is bad for the program; None if it is good."""
    try:
        reading(alphabet, text)
    except BadText as error:
        return error.at
    return None


def without_pairs(text):
    """The text with each choice of its pairs of brackets left out."""
    begins, pairs = [], []
    for at, sign in enumerate(text):
        if sign == "(":
            begins.append(at)
        elif sign == ")":
            pairs.append((begins.pop(), at))
    for number in range(len(pairs) + 1):
        for chosen in itertools.combinations(pairs, number):
            gone = [at for pair in chosen for at in pair]
            yield number, "".join(sign for at, sign in enumerate(text) if at not in gone)


class ReadingByHand(unittest.TestCase):
    def test_examples_of_the_document(self):
        self.assertEqual(read_tense("ab", "a until (b or a)"), (
            ("letter", "a"), ("letter", "b"), ("or", 1, 0), ("until", 0, 2),
        ))
        wanted = read_tense("ab", "((not a) until b) and (next (a or b))")
        self.assertEqual(read_tense("ab", "not a until b and next (a or b)"), wanted)
        self.assertEqual(wanted, (
            ("letter", "a"), ("not", 0), ("letter", "b"), ("until", 1, 2), ("or", 0, 2), ("next", 4), ("and", 3, 5),
        ))
        self.assertEqual(read_named("ab", "some y (x < y and b at y)"), (
            ("less", "x", "y"), ("letter", "b", "y"), ("and", 0, 1), ("some", "y", 2),
        ))
        self.assertEqual(read_set("ab", "not none then a then not (not none then b then not none)"), (
            ("none",), ("not", 0), ("letter", "a"), ("then", 1, 2), ("letter", "b"), ("then", 1, 4), ("then", 5, 1),
            ("not", 6), ("then", 3, 7),
        ))
        self.assertEqual(read_tense("abc", "a or b or c"), read_tense("abc", "(a or b) or c"))

    def test_single_words(self):
        for word in ("yes", "no"):
            self.assertEqual(read_tense("a", word), ((word,),))
            self.assertEqual(read_named("a", word), ((word,),))
        for word in ("none", "empty"):
            self.assertEqual(read_set("a", word), ((word,),))
        self.assertEqual(read_tense("bh", "h"), (("letter", "h"),))
        self.assertEqual(read_set("bh", "(h)"), (("letter", "h"),))
        self.assertEqual(read_named("bh", "h at u"), (("letter", "h", "u"),))
        self.assertEqual(read_named("bh", "((u = u))"), (("same", "u", "u"),))

    def test_associating(self):
        for text, wanted in (
            ("a or b or a", "(a or b) or a"), ("a and b and a", "(a and b) and a"), ("a or b and a", "a or (b and a)"),
            ("a and b or a", "(a and b) or a"), ("not a and b", "(not a) and b"), ("not not a or b", "(not (not a)) or b"),
            ("next a since prev b", "(next a) since (prev b)"), ("a until b and b since a", "(a until b) and (b since a)"),
            ("not (a until b) until a", "(not (a until b)) until a"), ("a or b until a or b", "(a or (b until a)) or b"),
        ):
            self.assertEqual(read_tense("ab", text), read_tense("ab", wanted), text)
        for text, wanted in (
            ("a then b then a", "(a then b) then a"), ("not a then b", "(not a) then b"),
            ("a then b and b then a or a", "((a then b) and (b then a)) or a"), ("a or b then a", "a or (b then a)"),
        ):
            self.assertEqual(read_set("ab", text), read_set("ab", wanted), text)
        self.assertNotEqual(read_set("ab", "a then (b then a)"), read_set("ab", "a then b then a"))
        self.assertEqual(
            read_named("ab", "some x a at x and x < y or not all y x = y"),
            read_named("ab", "((some x a at x) and (x < y)) or (not (all y (x = y)))"),
        )

    def test_bad_by_hand(self):
        for text, at in (
            ("", 0), (" ", 0), (" a", 0), ("a ", 2), ("a  or b", 2), ("a or", 4), ("a o", 2), ("a or ", 5), ("ab", 0),
            ("yesx", 0), ("yes1", 3), ("a b", 2), ("a)", 1), ("(a )", 3), ("a )", 2), ("( a)", 1), ("a(", 1), ("()", 1),
            ("not(a)", 3), ("(a)b", 3), ("(a", 2), ("((a)", 4), ("(a))", 3), ("not", 3), ("not ", 4), ("c", 0), ("A", 0),
            ("a or c", 5), ("a until b until a", 10), ("a until b since a", 10), ("a or or b", 5), ("or", 0), ("a not b", 2),
            ("a then b", 2), ("none", 0), ("x", 0), ("a at x", 2), ("some x a", 0), ("a < b", 2), ("a=b", 1), ("a\tor b", 1),
            ("a\n", 1), ("a or b)", 6), ("(a or b", 7), ("a,", 1), ("nota", 0), ("(a) (b)", 4), ("a or b ", 7), ("\u00e4", 0),
            ("a until (b until a)", None), ("(a)", None), ("not (not a)", None), ("a until not b until a", 14),
        ):
            self.assertEqual(read_at(read_tense, text), at, repr(text))
        for text, at in (
            ("a", 1), ("a ", 2), ("a at", 4), ("a at ", 5), ("a at b", 5), ("a a x", 2), ("x", 1), ("x <", 3), ("x < ", 4),
            ("x < a", 4), ("x <y", 3), ("x<y", 1), ("< x", 0), ("x = = y", 4), ("x == y", 3), ("some", 4), ("some ", 5),
            ("some a", 5), ("some x", 6), ("some x ", 7), ("some x (x < y", 13), ("some xy a at x", 5), ("some t yes", 5),
            ("all x y", 7), ("all x y <", 9), ("at", 0), ("until", 0), ("next yes", 0), ("some not yes", 5), ("xy = x", 0),
            ("x = y or", 8), ("a at xa", 5), ("x = y = z", 6), ("all x", 5), ("some x(yes)", 6), ("a at x", None),
        ):
            self.assertEqual(read_at(read_named, text), at, repr(text))
        for text, at in (
            ("", 0), ("yes", 0), ("a then", 6), ("a then then", 7), ("empty none", 6), ("next a", 0), ("not", 3),
            ("a until b", 2), ("not a not b", 6), ("none)", 4), ("emptya", 0), ("a then (b then c)", 15), ("empty", None),
        ):
            self.assertEqual(read_at(read_set, text), at, repr(text))

    def test_the_alphabet_tells_the_letters(self):
        self.assertEqual(read_at(read_tense, "c or d", "cd"), None)
        self.assertEqual(read_at(read_tense, "c or a", "cd"), 5)
        self.assertEqual(read_at(read_named, "c at x and a at x", "cd"), 11)
        self.assertEqual(read_at(read_set, "h then a", "h"), 7)

    def test_no_texts(self):
        for reading, *_ in KINDS:
            for thing in NO_TEXTS:
                self.assertEqual(read_at(reading, thing), -1)

    def test_the_alphabet_goes_ahead(self):
        for reading, writing, *_ in KINDS:
            for thing in NO_ALPHABETS:
                for function, other in ((reading, None), (reading, "("), (writing, ()), (writing, None)):
                    with self.assertRaises(BadAlphabet) as held:
                        function(thing, other)
                    self.assertIs(held.exception.thing, thing)

    def test_by_names(self):
        self.assertEqual(read_tense(text="a", alphabet="a"), write_and_back(TENSE, (("letter", "a"),)))
        self.assertEqual(read_named(text="a at x", alphabet="a"), write_and_back(NAMED, (("letter", "a", "x"),)))
        self.assertEqual(read_set(text="a", alphabet="a"), write_and_back(SETS, (("letter", "a"),)))

    def test_four_and_five_names(self):
        four = "u < v and w < x"
        self.assertEqual(len(read_named("a", four)), 3)
        self.assertEqual(len(read_named("a", "some u some v all w all x u < v and w < x")), 7)
        for more in ("y", "z"):
            for text in (four + f" and {more} = u", f"some {more} ({four})", f"({four}) or a at {more}"):
                with self.assertRaises(TooMany) as held:
                    read_named("a", text)
                self.assertEqual(held.exception.word, "name")
                # What is bad in the text goes ahead.
                self.assertEqual(read_at(read_named, text + " or b", "a"), len(text) + 4)
                self.assertEqual(read_at(read_named, text + " or", "a"), len(text) + 3)

    def test_31_are_open(self):
        for reading, words in (
            (read_tense, ("not ", "next ", "prev ", "(")), (read_set, ("not ", "(")),
            (read_named, ("not ", "some x ", "all y ", "(")),
        ):
            single = "a at x" if reading is read_named else "a"
            last = single if reading is read_named else "b"
            for word in words:
                closing = ")" if word == "(" else ""
                self.assertIsNone(read_at(reading, word * 30 + single + closing * 30))
                self.assertEqual(read_at(reading, word * 31 + single + closing * 31), len(word) * 30)
                # What is closed, or has been read, is not open any more.
                self.assertIsNone(read_at(reading, f"{word * 30}{single}{closing * 30} or {word * 30}{last}{closing * 30}"))
                again = f"{word * 29}({single} or {word}{last}{closing})"
                self.assertEqual(read_at(reading, again + closing * 29), len(word) * 29 + 1 + len(single) + 4)
                again = f"{word * 28}({single} or {word}{last}{closing} and {word}{single}{closing})"
                self.assertIsNone(read_at(reading, again + closing * 28))
            mixed = "(not " * 15
            self.assertIsNone(read_at(reading, mixed + single + ")" * 15))
            self.assertEqual(read_at(reading, mixed + "(" + single + ")" * 16), len(mixed))
            self.assertEqual(read_at(reading, mixed + "not " + single + ")" * 15), len(mixed))

    def test_long_texts(self):
        text = "a or " * 399 + "empty"
        self.assertEqual(len(text), 2000)
        self.assertEqual(len(read_set("a", text)), 2 + 399)
        self.assertEqual(read_at(read_set, text + "s"), 1995)
        text = text + " or empty"
        self.assertEqual(len(read_set("a", text)), 2 + 400)
        text = "(a) until b and " * 125
        self.assertEqual(len(text), 2000)
        self.assertEqual(read_at(read_tense, text), 2000)
        self.assertEqual(len(read_tense("ab", text + "b")), 3 + 125)
        self.assertEqual(read_at(read_tense, text + "until"), 2000)


def write_and_back(kind, sheet, alphabet="ab"):
    """What is read of what is written of a sheet."""
    reading, writing, *_ = kind
    return reading(alphabet, writing(alphabet, sheet))


class ReadingByTheRules(unittest.TestCase):
    def test_all_short_runs_of_words(self):
        for reading, _, rules, _ in KINDS:
            words = WORDS[reading]
            for many in range(5):
                for run in itertools.product(words, repeat=many):
                    text = "".join(run)
                    self.assertEqual(read_at(reading, text), bad_at(rules, text), text)

    def test_texts_that_are_changed_a_little(self):
        source = chance(40)
        for kind in KINDS:
            reading, writing, rules, forms = kind
            signs = WORDS[reading] + ["1", "aa", "  ", "=", "yes "]
            found = {True: 0, False: 0}
            for _ in range(1500):
                sheet = random_sheet(source, "ab", forms, source.randint(2, 9))
                text = source.choice((writing("ab", sheet), bracketed(tree(sheet, len(sheet) - 1))))
                if len(text) > 300:
                    continue
                self.assertIsNone(bad_at(rules, text))
                at, to = source.randint(0, len(text)), source.randint(0, 3)
                text = text[:at] + source.choice(["", *signs]) + text[at + to:]
                at = bad_at(rules, text)
                found[at is None] += 1
                self.assertEqual(read_at(reading, text), at, text)
            self.assertGreater(min(found.values()), 30)


class Writing(unittest.TestCase):
    def test_by_hand(self):
        for text in (
            "a until (b or a)", "not a until b and next (a or b)", "a or (b or a)", "a and b and a", "(a or b) and a",
            "(a until b) until a", "a until (b since a)", "not not a", "not (a until b)", "next yes or prev no",
            "not (a and b)", "a and (b or a) or b and a", "(a and b) since not a",
        ):
            self.assertEqual(write_tense("ab", read_tense("ab", text)), text)
        for text in (
            "some y (x < y and b at y)", "all z z = x or a at x", "not some x some x yes", "x < y and (y < z and z = x)",
            "some x (all y x = y or no)", "some x all y x = y or no",
        ):
            self.assertEqual(write_named("ab", read_named("ab", text)), text)
        for text in (
            "not none then a then not (not none then b then not none)", "a then (b then a)", "(a or b) then empty",
            "not (a then b)", "a then b and b or a", "(a and b) then none", "a or (b or a)",
        ):
            self.assertEqual(write_set("ab", read_set("ab", text)), text)
        self.assertEqual(write_tense("ab", read_tense("ab", "(((a) or (b)) or ((a) until (b)))")), "a or b or a until b")

    def test_the_last_part_alone_is_written(self):
        sheet = (("letter", "b"), ("letter", "a"), ("until", 0, 0), ("letter", "a"), ("not", 3), ("or", 1, 4))
        self.assertEqual(write_tense("ab", sheet), "a or not a")
        self.assertEqual(write_set("ab", (("none",), ("letter", "b"))), "b")
        self.assertEqual(write_named("ab", (("less", "u", "v"), ("same", "x", "z"))), "x = z")

    def test_what_is_written_is_read(self):
        source = chance(41)
        for kind in KINDS:
            reading, writing, rules, forms = kind
            for _ in range(400):
                sheet = random_sheet(source, "ab", forms, source.randint(1, 10))
                passed = as_lists(sheet)
                before = copy.deepcopy(passed)
                try:
                    text = writing("ab", passed)
                except TooLong:
                    continue
                self.assertEqual(passed, before)
                self.assertEqual(writing("ab", sheet), text)
                told = reading("ab", text)
                self.assertTrue(is_tuples(told))
                self.assertEqual(told, tidy(sheet))
                self.assertEqual(reading("ab", bracketed(tree(sheet, len(sheet) - 1))), told)
                self.assertEqual(writing("ab", told), text)

    def test_no_bracket_can_be_spared(self):
        source = chance(42)
        for reading, writing, rules, forms in KINDS:
            most = 0
            for _ in range(250):
                sheet = random_sheet(source, "ab", forms, source.randint(3, 8))
                text = writing("ab", sheet)
                whole = bracketed(tree(sheet, len(sheet) - 1))
                if whole.count("(") > 7:
                    continue
                for number, shorter in without_pairs(text):
                    if number > 0 and bad_at(rules, shorter) is None:
                        self.assertNotEqual(reading("ab", shorter), tidy(sheet), (text, shorter))
                good = [
                    (number, shorter) for number, shorter in without_pairs(whole)
                    if bad_at(rules, shorter) is None and reading("ab", shorter) == tidy(sheet)
                ]
                self.assertEqual(max(good)[1], text)
                most = max(most, text.count("("))
            self.assertGreater(most, 1)

    def test_wrong_sheets(self):
        for _, writing, _, _ in KINDS:
            for sheet, number in (((), -1), (None, -1), ("a", -1), (("no", ("not", 0)), 0), ((("letter", "c"),), 0)):
                with self.assertRaises(BadSheet) as held:
                    writing("ab", sheet)
                self.assertEqual(held.exception.number, number)
        with self.assertRaises(TooMany) as held:
            write_named("ab", (("less", "u", "v"), ("less", "w", "x"), ("letter", "a", "y")))
        self.assertEqual(held.exception.word, "name")

    def test_too_long_however_great(self):
        for word, brackets in (("or", 1), ("until", 2), ("and", 1), ("since", 2)):
            sheet, length, joined = [("letter", "a")], 1, len(word) + 2
            while len(sheet) < 6000:
                inner = 2 * brackets if len(sheet) > 1 else 0
                length = 2 * length + joined + inner
                sheet.append((word, len(sheet) - 1, len(sheet) - 1))
                if len(sheet) in (5, 8, 9, 10, 11, 60, 6000):
                    if length <= 2000:
                        self.assertEqual(len(write_tense("a", sheet)), length)
                        continue
                    with self.assertRaises(TooLong) as held:
                        write_tense("a", sheet)
                    self.assertEqual(held.exception.number, length)
        for writing, start in ((write_tense, YES), (write_set, ("empty",)), (write_named, ("same", "u", "w"))):
            sheet = [start] + [("not", k) for k in range(5999)]
            with self.assertRaises(TooLong) as held:
                writing("a", sheet)
            self.assertEqual(held.exception.number, 4 * 5999 + {"yes": 3, "empty": 5, "same": 5}[start[0]])
            with self.assertRaises(BadSheet) as held:
                writing("a", sheet + [("not", 0)])
            self.assertEqual(held.exception.number, -1)

    def test_parts_that_are_not_written_may_be_long(self):
        sheet = [("letter", "a")] + [("or", k, k) for k in range(5000)] + [("next", 1), ("prev", 0), ("and", 5002, 5001)]
        self.assertEqual(write_tense("a", sheet), "prev a and next (a or a)")

    def test_30_and_31_are_open(self):
        for writing, single, words in (
            (write_tense, ("letter", "a"), ("not", "next", "prev")), (write_set, ("empty",), ("not",)),
            (write_named, ("same", "x", "x"), ("not", "some", "all")),
        ):
            for word in words:
                names = ("x",) if word in ("some", "all") else ()
                sheet = [single]
                while len(sheet) < 32:
                    sheet.append((word, *names, len(sheet) - 1))
                self.assertEqual(len(writing("ab", sheet[:31]).split(word)), 31)
                with self.assertRaises(TooMany) as held:
                    writing("ab", sheet)
                self.assertEqual(held.exception.word, "bracket")
                # Not open at the same place.
                self.assertIn(" or ", writing("ab", sheet[:31] + [("or", 30, 30)]))
                with self.assertRaises(TooMany):
                    writing("ab", sheet[:31] + [("or", 30, 30), (word, *names, 31)])
        for word, left in (("or", False), ("and", False), ("until", False), ("until", True), ("since", True)):
            for many in (30, 31):
                sheet = [("letter", "a"), (word, 0, 0)]
                while len(sheet) < many + 2:
                    last = len(sheet) - 1
                    sheet.append((word, last, 0) if left else (word, 0, last))
                if many == 30:
                    self.assertEqual(write_tense("a", sheet).count("("), 30)
                    self.assertEqual(read_tense("a", write_tense("a", sheet)), tuple(sheet))
                else:
                    with self.assertRaises(TooMany):
                        write_tense("a", sheet)

    def test_a_long_text_goes_ahead_of_many_brackets(self):
        sheet = [("letter", "a")] + [("next", k) for k in range(399)]
        with self.assertRaises(TooMany):
            write_tense("a", sheet)
        sheet = [("letter", "a")] + [("next", k) for k in range(400)]
        with self.assertRaises(TooLong) as held:
            write_tense("a", sheet)
        self.assertEqual(held.exception.number, 2001)

    def test_exactly_2000_and_2001_characters(self):
        # `no or a or a ..`: 2 characters, and 5 for each a.
        for start, many, wanted in ((("empty",), 399, 2000), (("none",), 399, 1999), (("letter", "b"), 400, 2001)):
            sheet = [start, ("letter", "a"), ("or", 0, 1)]
            while len(sheet) < many + 2:
                sheet.append(("or", len(sheet) - 1, 1))
            if wanted <= 2000:
                text = write_set("ab", sheet)
                self.assertEqual(len(text), wanted)
                self.assertEqual(read_set("ab", text), tuple(sheet))
            else:
                with self.assertRaises(TooLong) as held:
                    write_set("ab", sheet)
                self.assertEqual(held.exception.number, wanted)


if __name__ == "__main__":
    unittest.main()
