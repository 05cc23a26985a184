"""Parts with one mark, and idle parts ([31])."""

import copy
import unittest

from saidhere.errors import BadAlphabet, BadSheet, TooMany
from saidhere.leastpair import least
from saidhere.merging import idle, merged
from saidhere.tensein import derive_tense
from saidhere.tidying import tidy_tense
from tests.plainly import TENSE_FORMS, as_lists, chance, is_tuples, random_sheet, rows, tense_holds, tidy
from tests.test_plain import NO_ALPHABETS
from tests.test_tense import ALL_FORMS, WRONG_PARTS

# The marks of its parts: a, no a, b (the same over ab), a again, a or b, and so on.
SAME = (("letter", "a"), ("not", 0), ("letter", "b"), ("not", 2), ("or", 3, 1), ("and", 4, 3), ("next", 5))


def marks(sheet, number, alphabet, most):
    """The mark of a part in all short rows."""
    return tuple(
        tense_holds(sheet, row, number, place) for row in rows(alphabet, most) for place in range(len(row))
    )


class Merged(unittest.TestCase):
    def test_by_definition(self):
        source = chance(310)
        for _ in range(120):
            alphabet = source.choice(("a", "ab", "bd"))
            sheet = random_sheet(source, alphabet, TENSE_FORMS, source.randint(1, 12))
            try:
                pairs = derive_tense(alphabet, sheet)
            except TooMany:
                continue
            first = [next(k for k, other in enumerate(pairs) if other == pair) for pair in pairs]
            led = tuple(
                (part[0],) + tuple(first[x] if isinstance(x, int) else x for x in part[1:]) for part in sheet
            )[:first[-1] + 1]
            told = merged(alphabet, sheet)
            self.assertEqual(told, tidy(led))
            self.assertTrue(is_tuples(told))
            after = derive_tense(alphabet, told)
            self.assertEqual(after[-1], pairs[-1])
            self.assertEqual(len({(pair.left, pair.right, pair.marked) for pair in after}), len(after))
            self.assertEqual(merged(alphabet, told), told)

    def test_parts_with_one_mark_far_apart(self):
        self.assertEqual(merged("ab", SAME), (("letter", "a"), ("not", 0), ("or", 0, 1), ("and", 2, 0), ("next", 3))[:1] + (
            ("next", 0),))
        # Over abc the letter b is not what is no a.
        self.assertEqual(merged("abc", SAME)[-1], ("next", len(merged("abc", SAME)) - 2))
        long = (("letter", "a"),) + (("letter", "b"),) * 300 + (("letter", "a"), ("until", 301, 300))
        self.assertEqual(merged(alphabet="ab", sheet=long), (("letter", "a"), ("letter", "b"), ("until", 0, 1)))

    def test_the_last_part_has_an_earlier_mark(self):
        sheet = (("letter", "a"), ("next", 0), ("not", 1), ("not", 2))
        self.assertEqual(merged("ab", sheet), (("letter", "a"), ("next", 0)))

    def test_one_part(self):
        for part in (("yes",), ("no",), ("letter", "a")):
            self.assertEqual(merged("ab", (part,)), (part,))
        # Over a alone the letter is everywhere: each part alone is the first one with its mark.
        self.assertEqual(merged("a", (("letter", "a"), ("yes",))), (("letter", "a"),))

    def test_lists_and_nothing_changed(self):
        listed = as_lists(ALL_FORMS)
        before = copy.deepcopy(listed)
        self.assertEqual(merged("ab", listed), merged("ab", ALL_FORMS))
        self.assertEqual(idle("ab", listed), idle("ab", ALL_FORMS))
        self.assertEqual(listed, before)

    def test_a_long_sheet(self):
        sheet = (("letter", "a"),) + tuple(("not", k) for k in range(5999))
        self.assertEqual(merged("ab", sheet), (("letter", "a"), ("not", 0)))


class Idle(unittest.TestCase):
    def test_by_definition(self):
        source = chance(311)
        seen = set()
        for _ in range(90):
            alphabet = source.choice(("a", "ab", "bd"))
            sheet = random_sheet(source, alphabet, TENSE_FORMS, source.randint(1, 9))
            try:
                pairs = derive_tense(alphabet, sheet)
                wanted = []
                for number in range(len(sheet)):
                    others = [sheet[:number] + (part,) + sheet[number + 1:] for part in (("yes",), ("no",))]
                    if all(derive_tense(alphabet, other)[-1] == pairs[-1] for other in others):
                        wanted.append(number)
            except TooMany:
                with self.assertRaises(TooMany):
                    idle(alphabet, sheet)
                continue
            self.assertEqual(idle(alphabet, sheet), tuple(wanted))
            seen.add(len(wanted) > 0)
            for number in wanted:
                other = sheet[:number] + (("no",),) + sheet[number + 1:]
                self.assertEqual(marks(other, len(sheet) - 1, alphabet, 4), marks(sheet, len(sheet) - 1, alphabet, 4))
        self.assertEqual(seen, {True, False})

    def test_edges(self):
        self.assertEqual(idle("ab", (("yes",),)), ())
        self.assertEqual(idle("ab", (("letter", "a"), ("yes",))), (0,))
        self.assertEqual(idle("ab", (("letter", "a"), ("letter", "b"), ("or", 0, 1))), ())
        # What is joined to `yes` by `or` does not matter; nor does what stands aside.
        sheet = (("letter", "a"), ("letter", "b"), ("yes",), ("or", 1, 2), ("next", 0))
        self.assertEqual(idle(alphabet="ab", sheet=sheet), (1, 2, 3))
        sheet = (("letter", "a"), ("letter", "b"), ("yes",), ("or", 1, 2), ("and", 0, 3))
        self.assertEqual(idle("ab", sheet), (1,))
        # Only one of the two replacements changes the mark: it is not idle.
        self.assertEqual(idle("ab", (("yes",), ("letter", "a"), ("and", 0, 1))), ())

    def test_too_many_in_a_sheet_with_a_part_replaced(self):
        # 39 next keep within 40 standings; with `yes` in the place of `no` they do not.
        sheet = (("no",),) + tuple(("next", k) for k in range(39)) + (("letter", "a"),)
        self.assertEqual(idle("a", sheet), tuple(range(40)))
        sheet = (("no",),) + tuple(("next", k) for k in range(40)) + (("letter", "a"),)
        derive_tense("a", sheet)
        self.assertEqual(merged("a", sheet), (("letter", "a"),))
        with self.assertRaises(TooMany) as held:
            idle("a", sheet)
        self.assertEqual(held.exception.word, "standing")
        # A part replaced by `no` alone brings it about.
        sheet = (("yes",), ("not", 0)) + tuple(("next", k + 1) for k in range(40))
        derive_tense("a", sheet)
        with self.assertRaises(TooMany):
            idle("a", sheet)

    def test_too_many_in_the_sheet(self):
        sheet = (("yes",),) + tuple(("next", k) for k in range(40)) + (("no",),)
        for call in (merged, idle):
            with self.assertRaises(TooMany) as held:
                call("a", sheet)
            self.assertEqual(held.exception.word, "standing")

    def test_a_long_sheet(self):
        sheet = (("letter", "a"),) + tuple(("not", k) for k in range(600)) + (("letter", "b"),)
        self.assertEqual(idle("ab", sheet), tuple(range(601)))


class Wrong(unittest.TestCase):
    def test_errors(self):
        for call in (merged, idle):
            for thing in NO_ALPHABETS:
                with self.assertRaises(BadAlphabet) as held:
                    call(thing, None)
                self.assertIs(held.exception.thing, thing)
            for part in WRONG_PARTS:
                with self.assertRaises(BadSheet) as held:
                    call("ab", (("yes",), part, ("wrong",)))
                self.assertEqual(held.exception.number, 1)
            for sheet in (None, (), [], "yes", 0, (("yes",),) * 6001):
                with self.assertRaises(BadSheet) as held:
                    call("ab", sheet)
                self.assertEqual(held.exception.number, -1)

    def test_what_it_rests_on(self):
        # Merging changes no mark, and the pairs told for the sheets are least ones.
        told = merged("ab", ALL_FORMS)
        self.assertEqual(derive_tense("ab", told)[-1], derive_tense("ab", ALL_FORMS)[-1])
        self.assertEqual(least(derive_tense("ab", told)[-1]), derive_tense("ab", told)[-1])
        self.assertEqual(tidy_tense("ab", told), told)


if __name__ == "__main__":
    unittest.main()
