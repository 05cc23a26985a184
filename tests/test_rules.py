"""Rules, and sheets that are rewritten by them ([32])."""

import copy
import unittest

from saidhere.errors import BadAlphabet, BadFilling, BadNumber, BadRuleSheet, BadSheet, NoMatch, TooMany
from saidhere.rules import Soundness, rewritten, sound
from saidhere.tensein import derive_tense
from saidhere.tensetext import read_tense, write_tense
from tests.plainly import TENSE_FORMS, as_lists, chance, is_tuples, placed, random_sheet, tense_holds, tidy
from tests.test_plain import NO_ALPHABETS
from tests.test_tense import WRONG_PARTS

M, N, L = ("mark", 0), ("mark", 1), ("mark", 2)
RULE_FORMS = tuple(form for form in TENSE_FORMS if form[0] != "letter") + (("mark", ("mark",)),)
# not next M0 is (not M0 next) or the end; F until G unfolds; and wrong ones.
DOUBLE = ((M, ("not", 0), ("not", 1)), (M,))
UNFOLD = (
    (M, N, ("until", 0, 1)),
    (M, N, ("until", 0, 1), ("next", 1), ("and", 0, 2), ("next", 4), ("or", 3, 5)),
)
HALF = ((M, N, ("until", 0, 1)), (M, N, ("next", 1), ("next", 0), ("or", 2, 3)))


def rule_holds(sheet, row, number, place):
    """Whether a part of a rule sheet holds where the marks are told by the letters of a row."""
    told = tuple(("letter", part) if part[0] == "mark" else part for part in sheet)
    return tense_holds(told, [Shown(letter) for letter in row], number, place)


class Shown:
    """A letter as it is seen by rule sheets: equal to the parts that hold there."""

    def __init__(self, letter):
        self.index = "abcdefgh".index(letter)

    def __eq__(self, part):
        return self.index // 2 ** part[1] % 2 == 1


def size(rule):
    return max([part[1] + 1 for sheet in rule for part in sheet if part[0] == "mark"], default=0)


def first_unlike(rule, most):
    """The least placed row at which just one of the sheets of a rule holds, by definition; None if no short one."""
    alphabet = "abcdefgh"[:2 ** size(rule)]
    for row, place in placed(alphabet, most):
        told = [rule_holds(sheet, row, len(sheet) - 1, place) for sheet in rule]
        if told[0] != told[1]:
            return row, place
    return None


def random_rule_sheet(source, many, marks):
    sheet = []
    while len(sheet) < many:
        word, kinds = source.choice(RULE_FORMS)
        if kinds == ("mark",):
            if marks:
                sheet.append((word, source.randrange(marks)))
        elif sheet or not kinds:
            sheet.append((word, *(source.randrange(len(sheet)) for _ in kinds)))
    return tuple(sheet)


class Sound(unittest.TestCase):
    def test_by_definition(self):
        source = chance(320)
        seen = set()
        for number in range(150):
            marks = number % 4
            rule = tuple(random_rule_sheet(source, source.randint(1, 5), marks) for _ in range(2))
            if number % 5 == 0:
                rule = (rule[0], rule[0] + (("not", len(rule[0]) - 1), ("not", len(rule[0]))))
            most = (4, 4, 3, 2)[size(rule)]
            told = sound(rule)
            self.assertIsInstance(told, Soundness)
            self.assertIs(bool(told), told.holds)
            found = first_unlike(rule, most)
            seen.add((size(rule), told.holds))
            if told.holds:
                self.assertIsNone(found)
                self.assertEqual((told.row, told.place), (None, None))
            else:
                self.assertTrue(found == (told.row, told.place) or (found is None and len(told.row) > most))
        self.assertEqual(len(seen), 8)

    def test_known_rules(self):
        self.assertTrue(sound(DOUBLE))
        self.assertTrue(sound(UNFOLD))
        told = sound(HALF)
        # The next place has M0 alone: not until M1.
        self.assertEqual((told.holds, told.row, told.place), (False, "ab", 0))
        # Size 0: both sheets tell the same in all rows, or not.
        self.assertTrue(sound(((("yes",),), (("no",), ("not", 0)))))
        told = sound(rule=((("yes",), ("next", 0)), (("yes",),)))
        self.assertEqual((told.row, told.place), ("a", 0))
        # The size is told by both sheets together.
        told = sound(((("no",),), (L,)))
        self.assertEqual((told.row, told.place), ("e", 0))
        told = sound(((M, L, ("and", 0, 1)), (L,)))
        self.assertEqual((told.row, told.place), ("e", 0))

    def test_lists_and_nothing_changed(self):
        listed = as_lists(UNFOLD)
        before = copy.deepcopy(listed)
        self.assertTrue(sound(listed))
        self.assertEqual(listed, before)

    def test_too_many_standings(self):
        for rule in (
            ((M,) + tuple(("next", k) for k in range(40)), (M,)),
            ((M,), (("yes",),) + tuple(("prev", k) for k in range(40)) + (M,)),
        ):
            with self.assertRaises(TooMany) as held:
                sound(rule)
            self.assertEqual(held.exception.word, "standing")

    def test_wrong_rules(self):
        def raised(rule):
            with self.assertRaises(BadRuleSheet) as held:
                sound(rule)
            with self.assertRaises(BadRuleSheet) as again:
                rewritten("ab", (("yes",),), 0, rule, None)
            self.assertEqual(vars(held.exception), vars(again.exception))
            return held.exception.which, held.exception.number

        for thing in (None, 0, "ab", (), ((M,),), ((M,), (M,), (M,)), {0: (M,), 1: (M,)}):
            self.assertEqual(raised(thing), (0, -1), thing)
        for sheet in (None, (), "mark", 0, (M,) * 6001):
            self.assertEqual(raised((sheet, None)), (0, -1))
            self.assertEqual(raised(((M,), sheet)), (1, -1))
        bad = [("mark",), ("mark", 3), ("mark", -1), ("mark", True), ("mark", "0"), ("mark", 0, 1), ("letter", "a"), ("marks", 0)]
        for part in bad + [part for part in WRONG_PARTS if part not in bad + [M]]:
            self.assertEqual(raised(((M, part, part), None)), (0, 1), part)
            self.assertEqual(raised(((M,), (N, part, None))), (1, 1), part)


class Rewritten(unittest.TestCase):
    def rewrite(self, text, number, rule, numbers):
        return write_tense("ab", rewritten("ab", read_tense("ab", text), number, rule, numbers))

    def test_known(self):
        sheet = read_tense("ab", "not not a until b")
        self.assertEqual(sheet[2], ("not", 1))
        self.assertEqual(rewritten("ab", sheet, 2, DOUBLE, (0,)), read_tense("ab", "a until b"))
        sheet = read_tense("ab", "prev (a until b)")
        self.assertEqual(sheet[2], ("until", 0, 1))
        told = rewritten(numbers=[0, 1], rule=UNFOLD, number=2, sheet=sheet, alphabet="ab")
        self.assertEqual(write_tense("ab", told), "prev (next b or next (a and a until b))")

    def test_the_last_part(self):
        sheet = read_tense("ab", "a until b")
        self.assertEqual(self.rewrite("a until b", 2, UNFOLD, (0, 1)), "next b or next (a and a until b)")
        self.assertEqual(rewritten("ab", sheet, 2, (UNFOLD[0], (N,)), (0, 1)), (("letter", "b"),))
        self.assertEqual(rewritten("ab", sheet, 2, (UNFOLD[0], (("no",),)), (0, 1)), (("no",),))

    def test_a_part_to_which_no_later_part_refers(self):
        sheet = (("letter", "a"), ("not", 0), ("not", 1), ("letter", "b"), ("next", 3))
        self.assertEqual(rewritten("ab", sheet, 2, DOUBLE, (0,)), (("letter", "b"), ("next", 0)))

    def test_size_0_and_parts_by_themselves(self):
        rule = ((("yes",),), (("no",), ("not", 0)))
        self.assertEqual(self.rewrite("next yes", 0, rule, ()), "next not no")
        # A rule of which the first sheet is a mark alone: any part, filled by itself; references of later
        # parts go to the new one, the new one to the old one.
        rule = ((M,), DOUBLE[0])
        self.assertEqual(self.rewrite("next a", 0, rule, (0,)), "next not not a")
        self.assertEqual(self.rewrite("next a", 1, rule, (1,)), "not not next a")
        # A part may be filled by another one of the same form.
        sheet = (("letter", "a"), ("letter", "a"), ("not", 1), ("not", 2))
        self.assertEqual(rewritten("ab", sheet, 3, DOUBLE, (0,)), (("letter", "a"),))

    def test_filled_by_one_part_several_times(self):
        rule = ((M, N, ("and", 0, 1)), (M,))
        self.assertEqual(self.rewrite("next (a and a)", 1, rule, (0, 0)), "next a")
        with self.assertRaises(NoMatch):
            self.rewrite("next (a and b)", 2, rule, (0, 0))
        with self.assertRaises(NoMatch):
            self.rewrite("next (a and b)", 2, rule, (1, 0))
        self.assertEqual(self.rewrite("next (a and b)", 2, rule, (0, 1)), "next a")

    def test_by_definition(self):
        source = chance(321)
        done = 0
        while done < 60:
            first = random_rule_sheet(source, source.randint(1, 4), 3)
            second = random_rule_sheet(source, source.randint(1, 4), 3)
            many = size((first, second))
            base = list(random_sheet(source, "ab", TENSE_FORMS, source.randint(1, 4)))
            numbers = tuple(source.randrange(len(base)) for _ in range(many))

            def fill(parts, sheet):
                places = []
                for part in sheet:
                    if part[0] == "mark":
                        places.append(numbers[part[1]])
                    else:
                        parts.append((part[0], *(places[x] for x in part[1:])))
                        places.append(len(parts) - 1)
                return places[-1]

            at = fill(base, first)
            if at != len(base) - 1 or any(number > at for number in numbers):
                continue
            later = []
            for _ in range(source.randint(0, 3)):
                here = len(base) + len(later)
                word = source.choice(("not", "next", "until", "and"))
                later.append((word, *(source.choice((at, source.randrange(here))) for _ in range(1 + (word in ("until", "and"))))))
            sheet = tuple(base + later)
            told = rewritten("ab", sheet, at, (first, second), numbers)
            parts = list(base)
            instead = fill(parts, second)
            places = {k: k for k in range(len(base))}
            places[at] = instead
            for k, part in enumerate(later):
                parts.append((part[0], *(places[x] for x in part[1:])))
                places[len(base) + k] = len(parts) - 1
            last = places[len(sheet) - 1]
            self.assertEqual(told, tidy(tuple(parts[:last + 1])))
            self.assertTrue(is_tuples(told))
            done += 1

    def test_a_sound_rule_keeps_the_mark(self):
        for text, number, rule, numbers in (
            ("next (a until b) since b", 2, UNFOLD, (0, 1)), ("not not next a", 3, DOUBLE, (1,)), ("b until not not a", 3, DOUBLE, (1,)),
        ):
            sheet = read_tense("ab", text)
            told = rewritten("ab", sheet, number, rule, numbers)
            self.assertTrue(sound(rule))
            self.assertEqual(derive_tense("ab", told)[-1], derive_tense("ab", sheet)[-1])

    def test_errors_in_their_order(self):
        sheet = (("letter", "a"), ("not", 0), ("not", 1))
        for thing in NO_ALPHABETS:
            with self.assertRaises(BadAlphabet) as held:
                rewritten(thing, None, None, None, None)
            self.assertIs(held.exception.thing, thing)
        for wrong, number in ((None, -1), ((), -1), ((("yes",), ("nay",)), 1)):
            with self.assertRaises(BadSheet) as held:
                rewritten("ab", wrong, None, None, None)
            self.assertEqual(held.exception.number, number)
        for thing in (-1, 3, True, None, "0", (0,), 10 ** 59):
            with self.assertRaises(BadNumber) as held:
                rewritten("ab", sheet, thing, None, None)
            self.assertIs(held.exception.thing, thing)
        with self.assertRaises(BadRuleSheet) as held:
            rewritten("ab", sheet, 2, None, None)
        self.assertEqual((held.exception.which, held.exception.number), (0, -1))
        for thing in (None, 0, (), (0, 0), [], "0", {0: 0}):
            with self.assertRaises(BadFilling) as held:
                rewritten("ab", sheet, 2, DOUBLE, thing)
            self.assertEqual(held.exception.number, -1)
        for wrong in (3, -1, True, None, "0", (0,)):
            for numbers, at in (((wrong, wrong), 0), ((0, wrong), 1)):
                with self.assertRaises(BadFilling) as held:
                    rewritten("ab", sheet, 2, UNFOLD, numbers)
                self.assertEqual(held.exception.number, at)
        # A number of a part behind the rewritten one is none, too; the part itself may be filled in.
        with self.assertRaises(BadFilling):
            rewritten("ab", sheet, 1, DOUBLE, (2,))
        for number, filling in ((2, 1), (2, 2), (1, 0), (0, 0)):
            with self.assertRaises(NoMatch):
                rewritten("ab", sheet, number, DOUBLE, (filling,))
        self.assertEqual(rewritten("ab", sheet, 2, DOUBLE, (0,)), (("letter", "a"),))

    def test_long_sheets(self):
        # A second sheet of 5,999 parts behind a sheet that refers to what it replaces: tidy, these are too many.
        tower = (M,) + tuple(("next", k) for k in range(5999))
        sheet = (("letter", "a"), ("next", 0))
        self.assertEqual(len(rewritten("ab", sheet, 0, ((M,), tower[:-1]), (0,))), 6000)
        with self.assertRaises(TooMany) as held:
            rewritten("ab", sheet, 0, ((M,), tower), (0,))
        self.assertEqual(held.exception.word, "part")
        # A sheet of more than 6,000 parts that are few when it is tidy.
        many = (M,) + tuple(("not", 0) for _ in range(5998)) + (("next", 1),)
        self.assertEqual(len(rewritten("ab", (("letter", "a"),) * 5999 + (("next", 5998),), 5998, ((M,), many), (0,))), 4)
        # No rewriting in a long sheet told by its tidy sheet.
        self.assertEqual(rewritten("ab", (("yes",),) * 6000, 5999, ((("yes",),), (("no",),)), ()), (("no",),))

    def test_lists_and_nothing_changed(self):
        sheet, rule, numbers = as_lists(read_tense("ab", "not not a until b")), as_lists(DOUBLE), [0]
        before = copy.deepcopy((sheet, rule, numbers))
        self.assertTrue(is_tuples(rewritten("ab", sheet, 2, rule, numbers)))
        self.assertEqual((sheet, rule, numbers), before)


if __name__ == "__main__":
    unittest.main()
