"""Contests of two rows ([45]) and levels that are judged ([46])."""

import unittest

from saidhere.contests import Contest, judge_levels
from saidhere.errors import BadAlphabet, BadPlace, BadRow, TooLong
from saidhere.meaning import tense_marks
from saidhere.tense import heights, tense_sheet
from tests.plainly import TENSE_FORMS, as_lists, chance, is_tuples, random_sheet, rows, tense_holds
from tests.test_plain import NO_ALPHABETS


def until_places(length, way, aim):
    """The places of a row at which `until` holds, for sets of places."""
    return {
        k for k in range(length) for m in aim
        if m > k and all(n in way for n in range(k + 1, m))
    }


def levels_by_formulas(one, other):
    """The levels of two short rows: what all formulas of each height tell apart.

    All sets of places that formulas of a height tell are told by the classes of places that they do not tell
    apart, so `until` and `since` of all such sets give the classes of the next height; `next` F is `no` until F.
    """
    some = [one, other]
    places = [(side, k) for side in (0, 1) for k in range(len(some[side]))]
    kind = {(side, k): some[side][k] for side, k in places}
    told = []
    while True:
        told.append(tuple(
            (k, m) for k in range(len(one)) for m in range(len(other)) if kind[0, k] == kind[1, m]
        ))
        kinds = sorted(set(kind.values()), key=repr)
        sets = [
            {place for place in places if kinds.index(kind[place]) in chosen}
            for chosen in [{j for j in range(len(kinds)) if bits >> j & 1} for bits in range(2 ** len(kinds))]
        ]
        newer = {place: [kind[place]] for place in places}
        for way in sets:
            for aim in sets:
                for side in (0, 1):
                    length = len(some[side])
                    ways, aims = ({k for s, k in x if s == side} for x in (way, aim))
                    later = until_places(length, ways, aims)
                    back = {length - 1 - k for k in until_places(
                        length, {length - 1 - k for k in ways}, {length - 1 - k for k in aims})}
                    for k in range(length):
                        newer[side, k].append((k in later, k in back))
        numbers = {}
        for place in places:
            numbers.setdefault(tuple(newer[place]), len(numbers))
        kind = {place: numbers[tuple(newer[place])] for place in places}
        if len(numbers) == len(kinds):
            break
    cut = 0
    while cut + 1 < len(told) and told[cut + 1] != told[cut]:
        cut += 1
    return tuple(told[:cut + 1])


def is_right(one, other, levels):
    """Whether levels are right, word for word."""
    def answered(level, k, m, first, second, swap):
        def has(i, j):
            return ((j, i) if swap else (i, j)) in level

        for sign in (1, -1):
            for i in [i for i in range(len(first)) if (i - k) * sign > 0]:
                good = [
                    j for j in range(len(second)) if (j - m) * sign > 0 and has(i, j) and all(
                        any(has(y, x) for y in range(min(k, i) + 1, max(k, i)))
                        for x in range(min(m, j) + 1, max(m, j))
                    )
                ]
                if not good:
                    return False
        return True

    if any(one[k] != other[m] for level in levels for k, m in level):
        return False
    return all(
        answered(set(ahead), k, m, one, other, False) and answered(set(ahead), m, k, other, one, True)
        for ahead, level in zip(levels, levels[1:]) for k, m in level
    )


def some_rows(source, many, most=12):
    """Two rows of which one is often the other one with a little changed."""
    for number in range(many):
        alphabet = source.choice(("a", "ab", "abc", "bdh"))
        row = "".join(source.choices(alphabet, k=source.randint(0, most)))
        other = "".join(source.choices(alphabet, k=source.randint(0, most)))
        if number % 2:
            part = "".join(source.choices(alphabet, k=source.randint(1, 3)))
            row, other = (part * 12)[:most], (part * 12)[source.randint(0, 2):][:most - source.randint(0, 1)]
        yield alphabet, row, other


class Levels(unittest.TestCase):
    def test_by_formulas(self):
        source = chance(450)
        for row in rows("ab", 3):
            for other in rows("ab", 3):
                self.assertEqual(Contest("ab", row, other).levels, levels_by_formulas(row, other), (row, other))
        for alphabet, row, other in some_rows(source, 25, 4):
            self.assertEqual(Contest(alphabet, row, other).levels, levels_by_formulas(row, other), (row, other))

    def test_form(self):
        source = chance(451)
        for alphabet, row, other in some_rows(source, 120):
            contest = Contest(alphabet=alphabet, row=row, other=other)
            self.assertEqual((contest.alphabet, contest.row, contest.other), (alphabet, row, other))
            levels = contest.levels
            self.assertTrue(is_tuples(levels))
            self.assertEqual(levels[0], tuple(
                (k, m) for k in range(len(row)) for m in range(len(other)) if row[k] == other[m]))
            for ahead, level in zip(levels, levels[1:]):
                self.assertLess(set(level), set(ahead))
                self.assertEqual(list(level), sorted(level))
            same = tuple((k, k) for k in range(len(row)))
            self.assertEqual(levels[-1], same if row == other else ())

    def test_sheets_by_chance_do_not_part_what_is_alike(self):
        source = chance(452)
        for alphabet, row, other in some_rows(source, 60, 6):
            contest = Contest(alphabet, row, other)
            for _ in range(8):
                sheet = random_sheet(source, alphabet, TENSE_FORMS, 8)
                for number, height in enumerate(heights(alphabet, sheet)):
                    level = contest.levels[min(height, len(contest.levels) - 1)]
                    for k, m in level:
                        self.assertEqual(tense_holds(sheet, row, number, k), tense_holds(sheet, other, number, m))

    def test_known(self):
        self.assertEqual(Contest("ab", "", "").levels, ((),))
        self.assertEqual(Contest("ab", "", "ab").levels, ((),))
        self.assertEqual(Contest("ab", "a", "b").levels, ((),))
        self.assertEqual(Contest("ab", "a", "a").levels, (((0, 0),),))
        self.assertEqual(Contest("ab", "a", "aa").levels, (((0, 0), (0, 1)), ()))
        self.assertEqual(Contest("a", "aaa", "aaaa").levels, (
            tuple((k, m) for k in range(3) for m in range(4)), ((0, 0), (1, 1), (1, 2), (2, 3)), ((0, 0), (2, 3)), ()))


class Parting(unittest.TestCase):
    def test_heights_and_sheets(self):
        source = chance(453)
        met = set()
        for alphabet, row, other in some_rows(source, 140):
            contest = Contest(alphabet, row, other)
            for k in range(len(row)):
                for m in range(len(other)):
                    height = contest.parting_height(k=k, m=m)
                    sheet = contest.parting_sheet(k=k, m=m)
                    without = [h for h, level in enumerate(contest.levels) if (k, m) not in level]
                    self.assertEqual(height, without[0] if without else None)
                    met.add(height)
                    if height is None:
                        self.assertIsNone(sheet)
                        continue
                    self.assertEqual(sheet, tense_sheet(alphabet, sheet))
                    self.assertTrue(is_tuples(sheet))
                    self.assertEqual(heights(alphabet, sheet)[-1], height)
                    self.assertTrue(tense_marks(alphabet, sheet, row)[k])
                    self.assertFalse(tense_marks(alphabet, sheet, other)[m])
        self.assertLessEqual({None, 0, 1, 2, 3, 4, 5}, met)

    def test_all_short_rows(self):
        short = rows("ab", 4)
        for row in short:
            for other in short + ["abbab", "babba"]:
                contest = Contest("ab", row, other)
                for k in range(len(row)):
                    for m in range(len(other)):
                        sheet = contest.parting_sheet(k, m)
                        self.assertEqual(sheet is None, contest.parting_height(k, m) is None)
                        if sheet is not None:
                            self.assertTrue(tense_marks("ab", sheet, row)[k])
                            self.assertFalse(tense_marks("ab", sheet, other)[m])
                            self.assertEqual(heights("ab", sheet)[-1], contest.parting_height(k, m))

    def test_places(self):
        contest = Contest("ab", "ab", "aba")
        for wrong in (-1, 3, True, None, "0", (0,), 10 ** 50):
            for call in (contest.parting_height, contest.parting_sheet):
                for k, m in ((wrong, 0), (0, wrong), (wrong, None)):
                    with self.assertRaises(BadPlace) as held:
                        call(k, m)
                    self.assertIs(held.exception.thing, wrong)
        self.assertEqual(contest.parting_height(1, 2), 0)
        with self.assertRaises(BadPlace) as held:
            contest.parting_height(2, 2)
        self.assertEqual(held.exception.thing, 2)

    def test_a_known_sheet(self):
        contest = Contest("ab", "ab", "aa")
        self.assertEqual((contest.parting_height(1, 0), contest.parting_sheet(1, 0)), (0, (("letter", "b"),)))
        self.assertEqual(contest.parting_height(0, 0), 1)
        same = Contest("ab", "ab", "ab")
        self.assertEqual((same.parting_height(1, 1), same.parting_sheet(1, 1)), (None, None))


class Errors(unittest.TestCase):
    def test_in_their_order(self):
        for call in (Contest, lambda *three: judge_levels(*three, None)):
            for thing in NO_ALPHABETS:
                with self.assertRaises(BadAlphabet) as held:
                    call(thing, None, None)
                self.assertIs(held.exception.thing, thing)
            for row, other, at in (
                ("abx", None, 2), ("a" * 13, "c", 0), ("c" * 13, None, 0), ("a" * 201, "c", -1), ("a", "a" * 201, -1),
                ("", ("a",), -1), (None, "c", -1),
            ):
                with self.assertRaises(BadRow) as held:
                    call("ab", row, other)
                self.assertEqual(held.exception.at, at)
            for row, other, number in (("a" * 13, "b" * 14, 13), ("a" * 12, "b" * 14, 14), ("a" * 200, "", 200)):
                with self.assertRaises(TooLong) as held:
                    call("ab", row, other)
                self.assertEqual(held.exception.number, number)
        self.assertEqual(Contest("ab", "a" * 12, "a" * 12).levels[-1], tuple((k, k) for k in range(12)))


class Judged(unittest.TestCase):
    def test_by_definition(self):
        source = chance(454)
        seen = []
        for alphabet, row, other in some_rows(source, 120, 6):
            levels = Contest(alphabet, row, other).levels
            self.assertIs(judge_levels(alphabet, row, other, levels), True)
            every = [(k, m) for k in range(len(row)) for m in range(len(other))]
            for _ in range(12):
                table = [list(level) for level in levels]
                if source.random() < 0.5:
                    level = source.choice(table)
                    if level:
                        level.pop(source.randrange(len(level)))
                if source.random() < 0.4 and every:
                    source.choice(table).append(source.choice(every))
                if source.random() < 0.2:
                    table.pop(0)
                if source.random() < 0.2:
                    table.append(list(table[-1]) if table else [])
                for level in table:
                    source.shuffle(level)
                right = is_right(row, other, table)
                seen.append(right)
                told = tuple(map(tuple, table))
                self.assertIs(judge_levels(alphabet, row, other, told), right)
                self.assertIs(judge_levels(alphabet, row, other, as_lists([level * 2 for level in table])), right)
        self.assertTrue(200 < sum(seen) < len(seen) - 200)

    def test_what_is_right_is_alike(self):
        source = chance(455)
        for alphabet, row, other in some_rows(source, 100, 5):
            contest = Contest(alphabet, row, other)
            table = [[item for item in contest.levels[0] if source.random() < 0.8] for _ in range(3)]
            if judge_levels(alphabet, row, other, table):
                for height, level in enumerate(table):
                    for item in level:
                        self.assertIn(item, contest.levels[min(height, len(contest.levels) - 1)])

    def test_none_at_all_and_empty_levels(self):
        self.assertIs(judge_levels("ab", "ab", "b", ()), True)
        self.assertIs(judge_levels("ab", "ab", "b", ((), (), ())), True)
        self.assertIs(judge_levels("ab", "", "", [[]]), True)
        self.assertIs(judge_levels(levels=(((1, 0),),), other="b", row="ab", alphabet="ab"), True)
        self.assertIs(judge_levels("ab", "ab", "b", (((0, 0),),)), False)
        # The first level is judged by its letters alone; the next one asks it.
        self.assertIs(judge_levels("ab", "ab", "b", (((1, 0),), ((1, 0),))), False)
        self.assertIs(judge_levels("ab", "ab", "ab", (((0, 0),), ((0, 0),))), False)
        self.assertIs(judge_levels("ab", "ab", "ab", (((0, 0), (1, 1)), ((1, 1),), ())), True)
        # Each level is asked by the one directly ahead: an item may not come back.
        self.assertIs(judge_levels("ab", "ab", "ab", (((0, 0), (1, 1)), (), ((1, 1),))), False)

    def test_wrong_forms(self):
        for bad in (
            None, 0, "", {}, (None,), ("",), ((0, 0),), (((0,),),), (((0, 0, 0),),), (((0, 2),),), (((2, 0),),), (((-1, 0),),),
            (((0, False),),), (((False, 0),),), (((0, "0"),),), ((), None), ((), ((0, None),)), (((0, 0),), "ab"), (("00",),),
        ):
            self.assertIs(judge_levels("ab", "ab", "ab", bad), False, bad)


if __name__ == "__main__":
    unittest.main()
