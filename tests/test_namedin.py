"""The derivation of a named sheet, and how one is judged ([19] with [18])."""

import copy
import unittest

from saidhere.errors import BadAlphabet, BadSheet, TooMany
from saidhere.flags import Reader
from saidhere.named import free_names
from saidhere.namedin import derive_named
from saidhere.namedjudge import first_wrong_named
from saidhere.namedtext import read_named
from saidhere.pairs import Pair
from tests.plainly import NAMED_FORMS, as_lists, chance, flag_letter, flagged_rows, is_proper, least_flag_reader, named_holds, places_of
from tests.plainly import random_sheet, reader_takes, rows
from tests.test_named import ALL_FORMS, WRONG_PARTS
from tests.test_plain import NO_ALPHABETS


def accepts(sheet, number, names):
    """Whether a part holds for a flagged row, by definition; told once for each flagged row."""
    held = {}

    def telling(flagged):
        if flagged not in held:
            row = "".join(letter for letter, _ in flagged)
            held[flagged] = is_proper(names, flagged) and named_holds(
                sheet, row, number, dict(zip(names, places_of(names, flagged)))
            )
        return held[flagged]

    return telling


def letters_of(alphabet, names):
    return len(alphabet) * 2 ** len(names)


def copied(source, reader):
    """A reader of the same rows: some standings twice, and perhaps some to which no row leads."""
    many = len(reader.moves)
    twins = list(range(many)) + [source.randrange(many) for _ in range(source.randint(0, min(3, 60 - many)))]
    alike = [[k for k, twin in enumerate(twins) if twin == s] for s in range(many)]
    moves = [[source.choice(alike[s]) for s in reader.moves[twin]] for twin in twins]
    return Reader(reader.alphabet, reader.names, moves, [k for k, twin in enumerate(twins) if twin in reader.accepted])


def changed(source, reader):
    """A reader with one move, or one accepted standing, changed."""
    moves, accepted = [list(m) for m in reader.moves], set(reader.accepted)
    if source.random() < 0.6:
        moves[source.randrange(len(moves))][source.randrange(len(moves[0]))] = source.randrange(len(moves))
    else:
        accepted ^= {source.randrange(len(moves))}
    return Reader(reader.alphabet, reader.names, moves, sorted(accepted))


def behind(many):
    """At least so many places behind x, with two names alone: x and y by turns."""
    sheet = [("yes",), ("less", "x", "y"), ("less", "y", "x")]
    last = 0
    for k in range(many):
        # The innermost one speaks of the name that is bound last.
        here, there = ("x", "y") if (many - k) % 2 else ("y", "x")
        sheet.append(("and", 1 if here == "x" else 2, last))
        sheet.append(("some", there, len(sheet) - 1))
        last = len(sheet) - 1
    return tuple(sheet)


def exactly(many, here, there):
    """A text: the place has exactly so many places behind it."""
    if many == 0:
        return f"not some {there} {here} < {there}"
    return f"some {there} ({here} < {there} and not some z ({here} < z and z < {there}) and {exactly(many - 1, there, here)})"


class DeriveNamed(unittest.TestCase):
    def test_single_parts(self):
        told = derive_named("ab", (("yes",), ("no",), ("letter", "b", "y"), ("same", "x", "y"), ("less", "y", "x")))
        self.assertIsInstance(told, tuple)
        self.assertEqual(told[0], Reader("ab", "", ((0, 0),), (0,)))
        self.assertEqual(told[1], Reader("ab", "", ((0, 0),), ()))
        self.assertEqual(told[2], Reader("ab", "y", ((0, 1, 0, 2), (1, 1, 1, 1), (2, 1, 2, 1)), (2,)))
        self.assertEqual(told[3], Reader("ab", "xy", ((0, 1, 1, 2) * 2, (1,) * 8, (2, 1, 1, 1) * 2), (2,)))
        self.assertEqual(told[4].names, "xy")

    def test_one_name_twice(self):
        told = derive_named("ab", (("same", "x", "x"), ("less", "x", "x")))
        self.assertEqual(told[0], Reader("ab", "x", ((0, 1, 0, 1), (1, 2, 1, 2), (2, 2, 2, 2)), (1,)))
        self.assertEqual(told[1], Reader("ab", "x", ((0, 0, 0, 0),), ()))

    def test_by_definition(self):
        source = chance(350)
        for _ in range(120):
            alphabet = source.choice(("a", "ab", "bdh"))
            sheet = random_sheet(source, alphabet, NAMED_FORMS, source.randint(1, 9), source.choice(("xy", "xyz", "uxz")))
            told = derive_named(alphabet, sheet)
            names = free_names(alphabet, sheet)
            self.assertEqual([reader.names for reader in told], list(names))
            for number, reader in enumerate(told):
                self.assertEqual(reader.alphabet, alphabet)
                telling = accepts(sheet, number, reader.names)
                # Flagged rows that are not proper, too: none is accepted.
                for flagged in flagged_rows(alphabet, reader.names, {1: 8, 2: 6, 3: 5, 4: 4}.get(letters_of(alphabet, reader.names), 2)):
                    self.assertIs(reader_takes(reader, flagged), telling(flagged), (sheet, number, flagged))

    def test_four_names(self):
        sheet = (("less", "w", "x"), ("less", "y", "z"), ("same", "x", "y"), ("and", 0, 1), ("or", 2, 3), ("not", 4))
        told = derive_named("a", sheet)
        self.assertEqual([reader.names for reader in told], ["wx", "yz", "xy", "wxyz", "wxyz", "wxyz"])
        for number in (3, 4, 5):
            telling = accepts(sheet, number, "wxyz")
            for flagged in flagged_rows("a", "wxyz", 3):
                self.assertIs(reader_takes(told[number], flagged), telling(flagged))

    def test_least_by_definition(self):
        source = chance(351)
        done = 0
        while done < 40:
            alphabet = source.choice(("a", "ab"))
            sheet = random_sheet(source, alphabet, NAMED_FORMS, source.randint(1, 8), "xy")
            reader = derive_named(alphabet, sheet)[-1]
            if len(reader) > 4 or len(reader.names) + len(alphabet) > 3:
                continue
            done += 1
            most, further = (3, 3) if len(reader.names) < 2 else (2, 3)
            moves, accepted = least_flag_reader(alphabet, reader.names, accepts(sheet, len(sheet) - 1, reader.names), most, further)
            self.assertEqual((reader.moves, reader.accepted), (moves, accepted))

    def test_names_are_forgotten(self):
        # Within `some x` the outer x is forgotten: some b comes, wherever x is.
        sheet = (("letter", "b", "x"), ("some", "x", 0), ("letter", "a", "x"), ("and", 2, 1), ("all", "x", 3), ("some", "y", 4))
        told = derive_named("ab", sheet)
        self.assertEqual([reader.names for reader in told], ["x", "", "x", "x", "", ""])
        self.assertIs(told[3]("ab", (0,)), True)
        self.assertIs(told[3]("aa", (0,)), False)
        self.assertIs(told[4](""), True)
        self.assertIs(told[4]("ab"), False)
        self.assertIs(told[5](""), False)

    def test_the_empty_row(self):
        sheet = (("yes",), ("no",), ("some", "x", 0), ("all", "x", 1), ("letter", "a", "x"), ("some", "x", 4), ("all", "x", 4), ("some", "y", 6),
                 ("all", "y", 5), ("not", 2), ("some", "x", 1), ("all", "x", 0))
        told = derive_named("ab", sheet)
        for number, wanted in ((2, False), (3, True), (5, False), (6, True), (7, False), (8, True), (9, True), (10, False), (11, True)):
            self.assertIs(told[number](""), wanted, number)
        self.assertEqual(told[2], Reader("ab", "", ((1, 1), (1, 1)), (1,)))
        self.assertEqual(told[3], Reader("ab", "", ((1, 1), (1, 1)), (0,)))
        self.assertEqual(told[6], Reader("ab", "", ((0, 1), (1, 1)), (0,)))

    def test_a_name_that_is_not_free(self):
        # With another name free, a row is not empty.
        sheet = (("letter", "a", "y"), ("some", "x", 0), ("all", "x", 0), ("not", 0), ("all", "x", 3))
        told = derive_named("ab", sheet)
        self.assertEqual([reader.names for reader in told], ["y"] * 5)
        self.assertEqual(told[1], told[0])
        self.assertEqual(told[2], told[0])
        self.assertEqual(told[4], told[3])

    def test_parts_that_refer_twice(self):
        sheet = (("letter", "a", "x"), ("and", 0, 0), ("or", 1, 1), ("less", "x", "x"), ("or", 0, 3))
        told = derive_named("ab", sheet)
        self.assertEqual([told[k] for k in (1, 2, 4)], [told[0]] * 3)

    def test_sixty_standings(self):
        for many in (1, 2, 3, 57):
            told = derive_named("a", behind(many))
            self.assertEqual(len(told[-1]), many + 3)
            for row in ("a" * many, "a" * (many + 1), "a" * (many + 2)):
                for place in range(len(row)):
                    self.assertIs(told[-1](row, (place,)), len(row) - place > many)
        for many in (58, 70):
            with self.assertRaises(TooMany) as held:
                derive_named("a", behind(many))
            self.assertEqual(held.exception.word, "standing")

    def test_all_with_sixty_standings(self):
        # That not all places have it: the readers of what is denied may be larger than the ones that are told.
        for many in (10, 56, 57):
            sheet = behind(many)
            sheet += (("not", len(sheet) - 1), ("all", "x", len(sheet)))
            told = derive_named("a", sheet)
            self.assertEqual(len(told[-1]), many + 2)
            for size in range(many + 3):
                self.assertIs(told[-1]("a" * size), size <= many)

    def test_too_many_ways(self):
        # A b with exactly so many places behind it: which of the last places had a b, is not forgotten.
        for many, good in ((0, True), (2, True), (4, True), (5, False), (7, False)):
            sheet = read_named("ab", f"some x (b at x and {exactly(many, 'x', 'y')})")
            if good:
                reader = derive_named("ab", sheet)[-1]
                self.assertEqual(len(reader), 2 ** (many + 1))
                for row in rows("ab", 7):
                    self.assertIs(reader(row), row[len(row) - many - 1:][:1] == "b" if len(row) > many else False)
            else:
                with self.assertRaises(TooMany):
                    derive_named("ab", sheet)

    def test_lists_and_long_sheets(self):
        passed = as_lists(ALL_FORMS)
        before = copy.deepcopy(passed)
        self.assertEqual(derive_named(sheet=passed, alphabet="ab"), derive_named("ab", ALL_FORMS))
        self.assertEqual(passed, before)
        sheet = (("less", "x", "y"),) + tuple(("not", k) for k in range(5999))
        told = derive_named("abcdefgh", sheet)
        self.assertEqual(told[5998], told[0])
        self.assertEqual(first_wrong_named("abcdefgh", sheet, told), 6000)

    def test_errors(self):
        for thing in NO_ALPHABETS:
            for call in (lambda: derive_named(thing, ()), lambda: first_wrong_named(thing, (), None)):
                with self.assertRaises(BadAlphabet) as held:
                    call()
                self.assertIs(held.exception.thing, thing)
        for part in WRONG_PARTS:
            sheet = (("yes",), ("no",), part, ())
            for call in (lambda: derive_named("ab", sheet), lambda: first_wrong_named("ab", sheet, None)):
                with self.assertRaises(BadSheet) as held:
                    call()
                self.assertEqual(held.exception.number, 2)
        names = (("same", "u", "v"), ("same", "w", "x"), ("same", "y", "y"))
        for call in (lambda: derive_named("ab", names), lambda: first_wrong_named("ab", names, None)):
            with self.assertRaises(TooMany) as held:
                call()
            self.assertEqual(held.exception.word, "name")


class FirstWrongNamed(unittest.TestCase):
    def test_right_and_changed_ones(self):
        source = chance(352)
        wrong = {}
        for _ in range(250):
            alphabet = source.choice(("a", "ab"))
            sheet = random_sheet(source, alphabet, NAMED_FORMS, source.randint(2, 7), "xy")
            told = list(derive_named(alphabet, sheet))
            self.assertEqual(first_wrong_named(alphabet, sheet, told), len(sheet))
            bigger = [copied(source, reader) for reader in told]
            self.assertEqual(first_wrong_named(alphabet, sheet, bigger), len(sheet))
            at = source.randrange(len(sheet))
            reader = changed(source, bigger[at])
            if len(told[at]) > 5:
                continue
            telling = accepts(sheet, at, reader.names)
            most = {1: 8, 2: 7, 4: 5, 8: 4}[letters_of(alphabet, reader.names)]
            right = all(reader_takes(reader, flagged) == telling(flagged) for flagged in flagged_rows(alphabet, reader.names, most))
            bigger[at] = reader
            self.assertEqual(first_wrong_named(alphabet, sheet, bigger), len(sheet) if right else at, (sheet, at))
            if not right:
                wrong[sheet[at][0]] = wrong.get(sheet[at][0], 0) + 1
        for word, _ in NAMED_FORMS:
            self.assertGreater(wrong.get(word, 0), 0, word)

    def test_rows_that_are_not_proper(self):
        sheet = (("letter", "a", "x"), ("yes",), ("or", 0, 1))
        told = derive_named("ab", sheet)
        # It accepts just what it is to accept, and rows without x; then rows with x twice.
        moves = [list(move) for move in told[0].moves]
        self.assertEqual(first_wrong_named("ab", sheet, (Reader("ab", "x", moves, sorted({0} | set(told[0].accepted))),) + told[1:]), 0)
        moves[told[0].accepted[0]][1] = told[0].accepted[0]
        self.assertEqual(first_wrong_named("ab", sheet, (Reader("ab", "x", moves, told[0].accepted),) + told[1:]), 0)
        whole = Reader("ab", "x", ((0, 0, 0, 0),), (0,))
        self.assertEqual(first_wrong_named("ab", sheet, told[:2] + (whole,)), 2)

    def test_names_that_are_others(self):
        sheet = (("letter", "a", "x"), ("some", "x", 0), ("not", 0))
        told = derive_named("ab", sheet)
        same = Reader("ab", "y", told[0].moves, told[0].accepted)
        self.assertEqual(first_wrong_named("ab", sheet, (same,) + told[1:]), 0)
        more = Reader("ab", "xy", (((0,) * 8),), ())
        self.assertEqual(first_wrong_named("ab", sheet, (told[0], more, told[2])), 1)
        # The free names are those of the part, also if they do not matter.
        sheet = (("letter", "a", "x"), ("yes",), ("or", 0, 1), ("no",), ("and", 3, 0))
        told = derive_named("ab", sheet)
        self.assertEqual(first_wrong_named("ab", sheet, told[:4] + (told[3],)), 4)
        self.assertEqual(first_wrong_named("ab", sheet, told[:2] + (told[1],) + told[3:]), 2)
        self.assertEqual(first_wrong_named("ab", sheet, told), 5)

    def test_exchanged_ones(self):
        source = chance(353)
        for _ in range(60):
            sheet = random_sheet(source, "ab", NAMED_FORMS, 6, "xy")
            told = list(derive_named("ab", sheet))
            one, other = sorted(source.sample(range(6), 2))
            alike = told[one] == told[other]
            told[one], told[other] = told[other], told[one]
            self.assertEqual(first_wrong_named("ab", sheet, told), 6 if alike else one)

    def test_other_things(self):
        sheet = (("letter", "a", "x"), ("not", 0))
        told = derive_named("ab", sheet)
        for thing in (None, 0, True, "ab", {}, {0: told[0], 1: told[1]}, told[0], (), told[:1], told + told[:1], [], 1.5):
            self.assertEqual(first_wrong_named("ab", sheet, thing), -1)
        for thing in (None, 0, (), told, Pair.of_letters("ab", "a"), derive_named("abc", sheet)[1], derive_named("ac", sheet)[1],
                      (told[1].names, told[1].moves, told[1].accepted)):
            self.assertEqual(first_wrong_named("ab", sheet, (told[0], thing)), 1)
            self.assertEqual(first_wrong_named(readers=[thing, told[1]], sheet=sheet, alphabet="ab"), 0)
        self.assertEqual(first_wrong_named("abc", sheet, told), 0)

    def test_never_too_many(self):
        sheet = behind(58)
        told = derive_named("a", sheet[:-2])
        self.assertEqual(first_wrong_named("a", sheet, told + (told[-1], told[-1])), len(sheet) - 2)
        # The part ahead of the last one still has a reader.
        self.assertEqual(sheet[-1][0], "some")
        ring = Reader("a", told[-1].names, tuple(((k + 1) % 60, k) for k in range(60)), (0,))
        self.assertEqual(first_wrong_named("a", sheet, told + (ring, ring)), len(sheet) - 2)

    def test_nothing_is_changed(self):
        sheet = as_lists(ALL_FORMS)
        told = list(derive_named("ab", sheet))
        before = copy.deepcopy(sheet), list(told)
        self.assertEqual(first_wrong_named("ab", sheet, told), len(sheet))
        self.assertEqual((sheet, told), before)
        self.assertEqual(flag_letter("ab", "xy", "b", "y"), 6)


if __name__ == "__main__":
    unittest.main()
