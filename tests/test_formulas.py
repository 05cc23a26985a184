"""What formulas are made of: nothing that says nothing new, and no two parts with one meaning."""

import unittest
from unittest import mock

from saidhere.errors import TooMany
from saidhere.formulas import NamedFormulas, SetFormulas, TenseFormulas
from saidhere.shortening import PastMeanings, SetMeanings, shortened
from tests.plainly import SET_FORMS, TENSE_FORMS, chance, random_sheet, rows, set_holds, tense_holds

PAST_FORMS = tuple(form for form in TENSE_FORMS if form[0] not in ("next", "until"))


class Joining(unittest.TestCase):
    def test_yes_and_no(self):
        for formulas in (TenseFormulas("prev", "since"), SetFormulas(), NamedFormulas()):
            yes, no = formulas.yes, formulas.no
            a, b = formulas.made(("letter", "a")), formulas.made(("letter", "b"))
            many = len(formulas.parts)
            self.assertEqual((formulas.negated(yes), formulas.negated(no)), (no, yes))
            for one in (a, b, yes, no):
                self.assertEqual([formulas.both(one, yes), formulas.both(yes, one)], [one, one])
                self.assertEqual([formulas.both(one, no), formulas.both(no, one)], [no, no])
                self.assertEqual([formulas.either(one, no), formulas.either(no, one)], [one, one])
                self.assertEqual([formulas.either(one, yes), formulas.either(yes, one)], [yes, yes])
                self.assertEqual([formulas.both(one, one), formulas.either(one, one)], [one, one])
            self.assertEqual([formulas.all_of([]), formulas.any_of([])], [yes, no])
            self.assertEqual(len(formulas.parts), many)

    def test_what_has_it_already(self):
        formulas = TenseFormulas("prev", "since")
        a, b = formulas.made(("letter", "a")), formulas.made(("letter", "b"))
        both, either, denied = formulas.both(a, b), formulas.either(a, b), formulas.negated(a)
        self.assertEqual([formulas.parts[both], formulas.parts[either], formulas.parts[denied]], [("and", a, b), ("or", a, b), ("not", a)])
        many = len(formulas.parts)
        self.assertEqual([formulas.both(b, a), formulas.either(b, a), formulas.negated(denied)], [both, either, a])
        for one in (a, b):
            self.assertEqual([formulas.both(both, one), formulas.both(one, both)], [both, both])
            self.assertEqual([formulas.either(both, one), formulas.either(one, both)], [one, one])
            self.assertEqual([formulas.either(either, one), formulas.either(one, either)], [either, either])
            self.assertEqual([formulas.both(either, one), formulas.both(one, either)], [one, one])
        self.assertEqual([formulas.both(a, denied), formulas.both(denied, a)], [formulas.no] * 2)
        self.assertEqual([formulas.either(a, denied), formulas.either(denied, a)], [formulas.yes] * 2)
        self.assertEqual(len(formulas.parts), many)

    def test_events(self):
        for near, far in (("prev", "since"), ("next", "until")):
            formulas = TenseFormulas(near, far)
            a, b = formulas.made(("letter", "a")), formulas.made(("letter", "b"))
            self.assertEqual(formulas.beside(formulas.no), formulas.no)
            self.assertEqual(formulas.kept_from(formulas.no, b), formulas.no)
            kept = formulas.kept_from(a, b)
            clear = formulas.negated(b)
            self.assertEqual(formulas.either(a, formulas.both(clear, formulas.made((far, clear, a)))), kept)
            self.assertEqual(formulas.kept_from(a, formulas.yes), a)
            self.assertEqual(formulas.parts[formulas.beside(a)], (near, a))

    def test_rows(self):
        formulas = SetFormulas()
        a, b = formulas.made(("letter", "a")), formulas.made(("letter", "b"))
        self.assertEqual([formulas.joined(a, formulas.no), formulas.joined(formulas.no, a)], [formulas.no] * 2)
        self.assertEqual([formulas.joined(a, formulas.empty), formulas.joined(formulas.empty, a)], [a, a])
        self.assertEqual(formulas.parts[formulas.joined(a, b)], ("then", a, b))
        formulas.mirrored = True
        self.assertEqual(formulas.parts[formulas.joined(a, b)], ("then", b, a))

    def test_names(self):
        formulas = NamedFormulas()
        self.assertEqual(formulas.somewhere("x", formulas.no), formulas.no)
        self.assertEqual(formulas.everywhere("x", formulas.yes), formulas.yes)
        self.assertEqual(formulas.parts[formulas.somewhere("x", formulas.yes)], ("some", "x", formulas.yes))
        self.assertEqual(formulas.parts[formulas.everywhere("y", formulas.no)], ("all", "y", formulas.no))

    def test_too_many(self):
        with mock.patch("saidhere.formulas.MOST_MADE", 4):
            formulas = TenseFormulas("prev", "since")
            one = formulas.made(("letter", "a"))
            formulas.negated(one)
            formulas.negated(one)
            with self.assertRaises(TooMany) as held:
                formulas.made(("letter", "b"))
            self.assertEqual(held.exception.word, "part")


class Shortened(unittest.TestCase):
    def test_past_parts(self):
        source = chance(460)
        less = 0
        for _ in range(150):
            sheet = random_sheet(source, "ab", PAST_FORMS, source.randint(3, 14))
            wanted = [source.randrange(len(sheet)) for _ in range(3)]
            parts, numbers = shortened(sheet, wanted, PastMeanings("ab", source.choice((None, 20000, 5))))
            less += len(sheet) - len(parts)
            self.assertLessEqual(len(parts), len(sheet))
            for row in rows("ab", 5, 1):
                for one, other in zip(wanted, numbers):
                    self.assertIs(tense_holds(parts, row, other, len(row) - 1), tense_holds(sheet, row, one, len(row) - 1))
        self.assertGreater(less, 400)

    def test_plain_sets(self):
        source = chance(461)
        for _ in range(100):
            sheet = random_sheet(source, "ab", SET_FORMS, source.randint(3, 12))
            wanted = [source.randrange(len(sheet)) for _ in range(3)]
            parts, numbers = shortened(sheet, wanted, SetMeanings("ab"))
            for row in rows("ab", 4):
                for one, other in zip(wanted, numbers):
                    self.assertIs(set_holds(parts, row, other), set_holds(sheet, row, one))

    def test_one_meaning_once(self):
        sheet = (("letter", "a"), ("letter", "b"), ("or", 0, 1), ("and", 0, 2), ("since", 0, 3), ("prev", 3), ("not", 5), ("yes",))
        parts, numbers = shortened(sheet, [2, 7, 4, 5, 6], PastMeanings("ab", None))
        # The letter b is what denies the letter a; over these two letters their `or` is `yes`.
        self.assertEqual(numbers[0], numbers[1])
        self.assertEqual(numbers[2], numbers[3])
        self.assertEqual(parts[numbers[2]][0], "prev")
        self.assertEqual(parts[numbers[4]], ("not", numbers[2]))
        self.assertIn(("not", parts.index(("letter", "a"))), parts)

    def test_what_is_too_large(self):
        # Sets of more than 60 standings stand for themselves alone.
        sheet = (("letter", "a"),) + tuple(("then", k, 0) for k in range(70))
        parts, numbers = shortened(sheet, [70, 60], SetMeanings("a"))
        self.assertEqual((tuple(parts), numbers), (sheet, [70, 60]))
        parts, numbers = shortened((("letter", "a"), ("prev", 0), ("since", 0, 0), ("prev", 0)), [1, 2, 3], PastMeanings("ab", 0))
        self.assertEqual((parts, numbers), ([("letter", "a"), ("prev", 0)], [1, 1, 1]))


if __name__ == "__main__":
    unittest.main()
