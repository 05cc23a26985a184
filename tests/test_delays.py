"""Delays, reaches and windows ([33])."""

import unittest

from saidhere.delays import delay, endless_back, endless_later, judge_back, judge_later, reach, windows
from saidhere.errors import TooMany
from saidhere.leastpair import least
from saidhere.pairs import Pair
from saidhere.pairworks import mirrored
from saidhere.sayingpairs import pair_of
from saidhere.tensetext import read_tense
from tests.plainly import as_lists, chance, counter, is_tuples, led, pair_marks, random_pair_parts, rows


def told(alphabet, text):
    return pair_of(alphabet, ("tense", read_tense(alphabet, text)))


LETTER = Pair.of_letters("ab", "a")
NEXT = told("ab", "next b")
NEXT_TWO = told("ab", "next (a or next b)")
LATER = told("ab", "yes until b")
EVEN = Pair("ab", counter(2, 2, (0, 1)), ((0, 0),), ((0, "a", 0), (0, "b", 0)))


def is_known_later(pair, many, further):
    """Whether the mark is known so many letters later, as far as short rows tell."""
    for x in rows(pair.alphabet, many, many) if many else [""]:
        for u in rows(pair.alphabet, 2):
            for a in pair.alphabet:
                if len({pair_marks(pair, u + a + x + w)[len(u)] for w in rows(pair.alphabet, further)}) > 1:
                    return False
    return True


def is_known_back(pair, many, further):
    for x in rows(pair.alphabet, many, many) if many else [""]:
        for w in rows(pair.alphabet, 2):
            for a in pair.alphabet:
                if len({pair_marks(pair, u + x + a + w)[len(u + x)] for u in rows(pair.alphabet, further)}) > 1:
                    return False
    return True


def shows_later(pair, shown):
    """Whether six rows show that the delay is None, word for word."""
    u, a, x, y, z, w = shown
    small = least(pair)

    def at(row):
        return led(small.alphabet, small.right, row[::-1])

    def mark(row):
        return pair_marks(pair, row)[len(u)]

    return y != "" and at(y + z) == at(z) and at(y + w) == at(w) and mark(u + a + x + z) != mark(u + a + x + w)


def shows_back(pair, shown):
    z, w, y, x, a, u = shown
    small = least(pair)

    def at(row):
        return led(small.alphabet, small.left, row)

    def mark(head):
        return pair_marks(pair, head + x + a + u)[len(head + x)]

    return y != "" and at(z + y) == at(z) and at(w + y) == at(w) and mark(z) != mark(w)


class Delays(unittest.TestCase):
    def test_known_marks(self):
        for pair, later, back in (
            (LETTER, 0, 0), (NEXT, 1, 0), (NEXT_TWO, 2, 0), (LATER, None, 0), (EVEN, 0, None),
            (told("ab", "prev (a and prev b) and next b"), 1, 2), (told("ab", "a since b and a until b"), None, None),
            (told("ab", "next (a and next (b and next a))"), 3, 0), (Pair.of_letters("ab", ""), 0, 0),
        ):
            self.assertEqual((delay(pair), reach(pair)), (later, back))
            self.assertEqual((delay(mirrored(pair)), reach(mirrored(pair))), (back, later))

    def test_standings_that_tell_nothing_at_once(self):
        # What is marked hangs on the second letter behind alone, whatever the next one is.
        pair = told("ab", "next next b")
        self.assertEqual((delay(pair), reach(pair)), (2, 0))
        self.assertEqual(delay(told("ab", "next next next b or next next next a")), 3)

    def test_long_delays(self):
        one = Pair("a", ((0,),), tuple((min(q + 1, 39),) for q in range(40)), tuple((0, "a", q) for q in range(39)))
        self.assertEqual((delay(one), reach(one)), (39, 0))
        self.assertEqual((delay(mirrored(one)), reach(mirrored(one))), (0, 39))

    def test_by_definition(self):
        source = chance(330)
        seen = set()
        for number in range(120):
            alphabet = source.choice(("a", "ab", "ab", "bdh"))
            pair = Pair(*random_pair_parts(source, alphabet, 3))
            if number % 3 == 0:
                pair = source.choice((NEXT, NEXT_TWO, LETTER)) if alphabet == "ab" else pair
            later, back = delay(pair=pair), reach(pair=pair)
            seen.add((later, back))
            further = 4 if len(alphabet) < 3 else 3
            for many in range(3):
                if later is not None and later <= many:
                    self.assertTrue(is_known_later(pair, many, further))
                if later is None or later > many:
                    self.assertFalse(is_known_later(pair, many, further))
                if back is not None and back <= many:
                    self.assertTrue(is_known_back(pair, many, further))
                if back is None or back > many:
                    self.assertFalse(is_known_back(pair, many, further))
        self.assertGreater(len(seen), 6)


class Windows(unittest.TestCase):
    def test_known(self):
        self.assertEqual(windows(LETTER), (("", "a", "", True), ("", "b", "", False)))
        self.assertEqual(windows(NEXT), (
            ("", "a", "", False), ("", "a", "a", False), ("", "a", "b", True),
            ("", "b", "", False), ("", "b", "a", False), ("", "b", "b", True),
        ))
        self.assertEqual(windows(LATER), None)
        self.assertEqual(windows(EVEN), None)
        self.assertEqual(windows(told("ab", "a since b and a until b")), None)

    def test_by_definition(self):
        source = chance(331)
        done = 0
        while done < 40:
            alphabet = source.choice(("a", "ab", "bdh"))
            text = source.choice((
                "{0} and next {1}", "prev {0} or next {1}", "prev prev {0} and not next {1}", "next next {0}",
                "next {0} and prev {1} or not next yes", "{0}", "prev {0} and next next {1}",
            )).format(source.choice(alphabet), source.choice(alphabet))
            pair = told(alphabet, text)
            later, back = delay(pair), reach(pair)
            found = windows(pair)
            self.assertTrue(is_tuples(found))
            self.assertEqual(list(found), sorted(found))
            table = {window[:3]: window[3] for window in found}
            self.assertEqual(len(table), len(found))
            seen = set()
            # Rows that are shorter than the window, too.
            for row in rows(alphabet, back + later + 1 if len(alphabet) > 2 else back + later + 3):
                for place, marked in enumerate(pair_marks(pair, row)):
                    ahead = row[:place]
                    window = (ahead[len(ahead) - back:] if back <= len(ahead) else ahead, row[place], row[place + 1:][:later])
                    self.assertIs(table[window], marked)
                    seen.add(window)
            self.assertEqual(seen, set(table))
            done += 1

    def test_up_to_2000(self):
        # The numbers of windows next to 2,000 on both sides are 1,922 and 2,046: there are never just 2,000 or 2,001.
        def chain(alphabet, back, later):
            """A mark with this reach and this delay."""
            left = tuple((min(p + 1, back),) * len(alphabet) for p in range(back + 1))
            right = tuple((min(q + 1, later),) * len(alphabet) for q in range(later + 1))
            marked = tuple((p, a, q) for p in range(back + 1) for a in alphabet for q in range(later + 1) if p < back or q < later)
            return Pair(alphabet, left, right, marked)

        pair = chain("a", 39, 39)
        self.assertEqual((delay(pair), reach(pair)), (39, 39))
        self.assertEqual(len(windows(pair)), 1600)
        sums = {n: [sum(n ** i for i in range(k)) for k in range(1, 41)] for n in range(1, 9)}
        numbers = sorted(n * x * y for n in sums for x in sums[n] for y in sums[n])
        self.assertEqual((max(k for k in numbers if k < 2001), min(k for k in numbers if k > 1999)), (1922, 2046))
        self.assertEqual(len(windows(chain("ab", 4, 4))), 1922)
        self.assertEqual(len(windows(chain("abcdefgh", 0, 2))), 584)
        for alphabet, back, later in (("ab", 4, 5), ("ab", 9, 0), ("ab", 0, 9), ("ab", 39, 0), ("abcdefgh", 0, 3), ("abcdefgh", 2, 1)):
            with self.assertRaises(TooMany) as held:
                windows(chain(alphabet, back, later))
            self.assertEqual(held.exception.word, "window")
        self.assertEqual(len(windows(chain("abc", 2, 3))), 1560)

    def test_none_goes_ahead_of_too_many(self):
        # The delay is None, and the windows back alone would be too many.
        pair = told("ab", "yes until b") & Pair("ab", tuple((min(p + 1, 30),) * 2 for p in range(31)), ((0, 0),), tuple(
            (p, a, 0) for p in range(30) for a in "ab"))
        self.assertEqual((delay(pair), reach(pair)), (None, 30))
        self.assertIs(windows(pair), None)


class Endless(unittest.TestCase):
    def test_what_is_shown_by_definition(self):
        source = chance(332)
        seen = set()
        for _ in range(200):
            pair = Pair(*random_pair_parts(source, source.choice(("a", "ab", "bdh")), 4))
            later, back = endless_later(pair=pair), endless_back(pair=pair)
            self.assertEqual((later is None, back is None), (delay(pair) is not None, reach(pair) is not None))
            seen.add((later is None, back is None))
            if later is not None:
                self.assertTrue(shows_later(pair, later) and is_tuples(later))
                self.assertIs(judge_later(pair, later), True)
                u, a, x, y, z, w = later
                for times in range(4):
                    one, other = u + a + x + y * times + z, u + a + x + y * times + w
                    self.assertNotEqual(pair_marks(pair, one)[len(u)], pair_marks(pair, other)[len(u)])
            if back is not None:
                self.assertTrue(shows_back(pair, back) and is_tuples(back))
                self.assertIs(judge_back(pair, list(back)), True)
        self.assertEqual(len(seen), 4)

    def test_judged_by_definition(self):
        source = chance(333)
        some = rows("ab", 2)
        seen = [0, 0, 0, 0]
        for pair in [LATER, EVEN, mirrored(LATER), mirrored(EVEN)] + [Pair(*random_pair_parts(source, "ab", 3)) for _ in range(20)]:
            for _ in range(60):
                u, x, y, z, w = (source.choice(some) for _ in range(5))
                a = source.choice("ab")
                right = shows_later(pair, (u, a, x, y, z, w))
                self.assertIs(judge_later(pair, (u, a, x, y, z, w)), right)
                back = shows_back(pair, (z, w, y, x, a, u))
                self.assertIs(judge_back(pair, [z, w, y, x, a, u]), back)
                seen[right] += 1
                seen[2 + back] += 1
        self.assertGreater(min(seen), 20)

    def test_standings_of_the_least_pair_count(self):
        # The right reader as it is passed counts letters up to 3 in a circle, but nothing hangs on it.
        pair = Pair("ab", ((0, 0),), ((1, 1), (2, 2), (0, 0)), ((0, "a", 0), (0, "a", 1), (0, "a", 2)))
        self.assertEqual((delay(pair), endless_later(pair)), (0, None))
        # It tells whether a b comes, by twice as many standings as are needed.
        twice = Pair("ab", ((0, 0),), ((1, 2), (0, 3), (3, 2), (2, 3)), tuple((0, a, q) for a in "ab" for q in (2, 3)))
        self.assertTrue(judge_later(twice, ("", "a", "", "a", "", "b")))

    def test_rows_of_any_length(self):
        self.assertTrue(judge_later(pair=LATER, shown=("a" * 400, "a", "a" * 400, "a" * 900, "a" * 300, "b" * 300)))
        self.assertTrue(judge_back(pair=mirrored(LATER), shown=("a" * 400, "b" * 400, "a" * 900, "a" * 300, "a", "b" * 300)))

    def test_wrong_forms(self):
        good = ("", "a", "", "a", "", "b")
        self.assertTrue(judge_later(LATER, good))
        self.assertTrue(judge_back(mirrored(LATER), good[::-1][:2] + ("a", "", "a", "")))
        for judge, pair, right in ((judge_later, LATER, good), (judge_back, mirrored(LATER), good[::-1])):
            for bad in (None, 0, "", "aaaaaa", {}, (), right[:5], right + ("",), as_lists([right])):
                self.assertIs(judge(pair, bad), False, bad)
            for at in range(6):
                for thing in (None, 0, True, ("a",), ["a"], "c", "x", b"a", " ", "axa"):
                    self.assertIs(judge(pair, right[:at] + (thing,) + right[at + 1:]), False)
        for letter in ("", "aa", "ab"):
            self.assertIs(judge_later(LATER, good[:1] + (letter,) + good[2:]), False)
            self.assertIs(judge_back(mirrored(LATER), ("", "b", "a", "", letter, "")), False)
        self.assertIs(judge_later(LATER, ("", "a", "", "", "", "b")), False)
        self.assertIs(judge_back(mirrored(LATER), ("", "b", "", "", "a", "")), False)


if __name__ == "__main__":
    unittest.main()
