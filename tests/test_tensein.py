"""The derivation of a tense sheet, and how one is judged ([17])."""

import copy
import unittest

from saidhere.errors import BadAlphabet, BadSheet, TooMany
from saidhere.flags import Reader
from saidhere.leastpair import least
from saidhere.pairs import Pair
from saidhere.tensein import derive_tense
from saidhere.tensejudge import first_wrong_tense
from tests.plainly import TENSE_FORMS, as_lists, chance, marked_of, pair_marks, placed, random_sheet, rows, table, tense_holds
from tests.test_plain import NO_ALPHABETS
from tests.test_tense import ALL_FORMS, WRONG_PARTS

ONE = ((0,),)
TWO = ((0, 0),)


def chain(word, many):
    """A sheet of a word on a word, so many times; until and since go to the next place by `no`."""
    if word in ("until", "since"):
        return (("no",), ("yes",)) + tuple((word, 0, k + 1) for k in range(many))
    return (("yes",),) + tuple((word, k) for k in range(many))


def marks_of(sheet, number):
    """What a part says of a row, told once for each row, by definition."""
    held = {}

    def telling(row):
        if row not in held:
            held[row] = tuple(tense_holds(sheet, row, number, place) for place in range(len(row)))
        return held[row]

    return telling


def copied(source, pair):
    """A pair with the same mark: some standings twice, and perhaps some to which no row leads."""
    def doubled(moves):
        many = len(moves)
        twins = list(range(many)) + [source.randrange(many) for _ in range(source.randint(0, 3))]
        alike = [[k for k, twin in enumerate(twins) if twin == s] for s in range(many)]
        return twins, tuple(tuple(source.choice(alike[s]) for s in moves[twin]) for twin in twins)

    ahead, left = doubled(pair.left)
    behind, right = doubled(pair.right)
    known = set(pair.marked)
    marked = tuple(
        (p, a, q) for p in range(len(left)) for a in pair.alphabet for q in range(len(right)) if (ahead[p], a, behind[q]) in known
    )
    return Pair(pair.alphabet, left, right, marked)


def changed(source, pair):
    """A pair with one move or one triple changed."""
    left, right, marked = [list(m) for m in pair.left], [list(m) for m in pair.right], set(pair.marked)
    kind = source.randrange(3)
    letter = source.randrange(len(pair.alphabet))
    if kind == 0:
        left[source.randrange(len(left))][letter] = source.randrange(len(left))
    elif kind == 1:
        right[source.randrange(len(right))][letter] = source.randrange(len(right))
    else:
        marked ^= {(source.randrange(len(left)), pair.alphabet[letter], source.randrange(len(right)))}
    return Pair(pair.alphabet, left, right, sorted(marked))


class DeriveTense(unittest.TestCase):
    def test_single_parts(self):
        yes, no, letter = derive_tense("ab", (("yes",), ("no",), ("letter", "b")))
        self.assertEqual(yes, Pair("ab", TWO, TWO, ((0, "a", 0), (0, "b", 0))))
        self.assertEqual(no, Pair("ab", TWO, TWO, ()))
        self.assertEqual(letter, Pair("ab", TWO, TWO, ((0, "b", 0),)))

    def test_steps_told_plainly(self):
        told = derive_tense("ab", (("letter", "b"), ("next", 0), ("prev", 0), ("until", 0, 0), ("since", 1, 0)))
        self.assertIsInstance(told, tuple)
        self.assertEqual(told[1], Pair("ab", TWO, ((0, 1), (0, 1)), ((0, "a", 1), (0, "b", 1))))
        self.assertEqual(told[2], Pair("ab", ((0, 1), (0, 1)), TWO, ((1, "a", 0), (1, "b", 0))))
        self.assertEqual(told[3], told[1])

    def test_by_definition(self):
        source = chance(340)
        for _ in range(150):
            alphabet = source.choice(("a", "ab", "bdh"))
            sheet = random_sheet(source, alphabet, TENSE_FORMS, source.randint(1, 8))
            told = derive_tense(alphabet, sheet)
            self.assertEqual(len(told), len(sheet))
            for number, pair in enumerate(told):
                self.assertEqual(pair.alphabet, alphabet)
                self.assertEqual(least(pair), pair)
                telling = marks_of(sheet, number)
                for row in rows(alphabet, 5 if len(alphabet) < 3 else 4):
                    self.assertEqual(pair_marks(pair, row), telling(row))

    def test_each_word_by_definition(self):
        for word in ("next", "prev", "until", "since"):
            for inner in (("letter", "a"), ("next", 1), ("prev", 1), ("until", 1, 0), ("since", 1, 0)):
                sheet = (("letter", "a"), ("letter", "b"), inner, ("not", 2))
                sheet += ((word, 2), (word, 3)) if word in ("next", "prev") else ((word, 2, 3), (word, 3, 2), (word, 2, 1), (word, 0, 2))
                for number, pair in enumerate(derive_tense("ab", sheet)):
                    telling = marks_of(sheet, number)
                    for row in rows("ab", 6):
                        self.assertEqual(pair_marks(pair, row), telling(row))

    def test_least_by_definition(self):
        source = chance(341)
        done = 0
        while done < 40:
            sheet = random_sheet(source, "ab", TENSE_FORMS, source.randint(2, 6))
            pair = derive_tense("ab", sheet)[-1]
            if max(len(pair.left), len(pair.right)) > 4:
                continue
            done += 1
            left, right, told = table("ab", marks_of(sheet, len(sheet) - 1), 3, 4)
            self.assertEqual((pair.left, pair.right, pair.marked), (left, right, marked_of("ab", told)))

    def test_forty_standings(self):
        for word, side in (("next", 1), ("until", 1), ("prev", 0), ("since", 0)):
            told = derive_tense("a", chain(word, 39))
            self.assertEqual((len(told[-1].left), len(told[-1].right))[side], 40)
            self.assertEqual((len(told[-1].left), len(told[-1].right))[1 - side], 1)
            for number in (0, 20, 39):
                for row in ("a" * k for k in range(42)):
                    wanted = [len(row) - 1 - k >= number if side else k >= number for k in range(len(row))]
                    self.assertEqual(list(pair_marks(told[number - 40], row)), wanted)
            with self.assertRaises(TooMany) as held:
                derive_tense("a", chain(word, 40))
            self.assertEqual(held.exception.word, "standing")

    def test_too_many_ahead_of_a_small_last_part(self):
        # Each part has its pair, whatever comes of it.
        with self.assertRaises(TooMany):
            derive_tense("a", chain("next", 40) + (("yes",),))
        with self.assertRaises(TooMany):
            derive_tense("ab", (("letter", "b"),) + tuple(("next", k) for k in range(6)))
        self.assertEqual(len(derive_tense("ab", (("letter", "b"),) + tuple(("next", k) for k in range(5)))[-1].right), 32)

    def test_both_sides(self):
        both = derive_tense("a", chain("next", 39) + (("prev", 0), ("and", 39, 40)))[-1]
        self.assertEqual((len(both.left), len(both.right)), (2, 40))

    def test_long_sheets(self):
        source = chance(342)
        sheet = random_sheet(source, "ab", (("letter", ("letter",)), ("not", ("part",)), ("and", ("part", "part")), ("or", ("part", "part"))), 6000)
        told = derive_tense("ab", sheet)
        self.assertEqual(len(told), 6000)
        self.assertEqual(told[5999], least(told[5999]))
        flip = (("letter", "a"),) + tuple(("not", k) for k in range(5999))
        told = derive_tense("abcdefgh", flip)
        self.assertEqual(told[5999], ~Pair.of_letters("abcdefgh", "a"))
        self.assertEqual(first_wrong_tense("abcdefgh", flip, told), 6000)

    def test_all_letters(self):
        sheet = tuple(("letter", a) for a in "abcdefgh") + (("until", 0, 7), ("since", 8, 3), ("next", 9), ("prev", 10))
        told = derive_tense("abcdefgh", sheet)
        telling = [marks_of(sheet, k) for k in range(len(sheet))]
        for row in rows("adgh", 4):
            for number, pair in enumerate(told):
                self.assertEqual(pair_marks(pair, row), telling[number](row))

    def test_lists(self):
        passed = as_lists(ALL_FORMS)
        before = copy.deepcopy(passed)
        self.assertEqual(derive_tense(sheet=passed, alphabet="ab"), derive_tense("ab", ALL_FORMS))
        self.assertEqual(passed, before)

    def test_errors(self):
        for thing in NO_ALPHABETS:
            with self.assertRaises(BadAlphabet) as held:
                derive_tense(thing, ())
            self.assertIs(held.exception.thing, thing)
            with self.assertRaises(BadAlphabet):
                first_wrong_tense(thing, (), None)
        for part in WRONG_PARTS:
            sheet = (("yes",), ("no",), part, ())
            for call in (lambda: derive_tense("ab", sheet), lambda: first_wrong_tense("ab", sheet, None)):
                with self.assertRaises(BadSheet) as held:
                    call()
                self.assertEqual(held.exception.number, 2)
        for sheet in ((), None, "yes", {}, (("yes",),) * 6001):
            for call in (lambda: derive_tense("ab", sheet), lambda: first_wrong_tense("ab", sheet, ())):
                with self.assertRaises(BadSheet) as held:
                    call()
                self.assertEqual(held.exception.number, -1)


class FirstWrongTense(unittest.TestCase):
    def test_right_ones(self):
        source = chance(343)
        for _ in range(120):
            alphabet = source.choice(("a", "ab", "bdh"))
            sheet = random_sheet(source, alphabet, TENSE_FORMS, source.randint(1, 9))
            told = derive_tense(alphabet, sheet)
            self.assertEqual(first_wrong_tense(alphabet, sheet, told), len(sheet))
            self.assertEqual(first_wrong_tense(alphabet, sheet, list(told)), len(sheet))
            if max(max(len(pair.left), len(pair.right)) for pair in told) < 20:
                bigger = [copied(source, pair) for pair in told]
                self.assertEqual(first_wrong_tense(alphabet, sheet, bigger), len(sheet))

    def test_changed_ones(self):
        source = chance(344)
        wrong = {}
        for _ in range(250):
            alphabet = source.choice(("a", "ab", "bdh"))
            sheet = random_sheet(source, alphabet, TENSE_FORMS, source.randint(2, 7))
            told = list(derive_tense(alphabet, sheet))
            if max(max(len(pair.left), len(pair.right)) for pair in told) > 7:
                continue
            at = source.randrange(len(sheet))
            pair = changed(source, copied(source, told[at]) if source.random() < 0.5 else told[at])
            telling = marks_of(sheet, at)
            right = all(pair_marks(pair, row) == telling(row) for row in rows(alphabet, {"a": 20, "ab": 7}.get(alphabet, 5)))
            told[at] = pair
            self.assertEqual(first_wrong_tense(alphabet, sheet, told), len(sheet) if right else at)
            if not right:
                wrong[sheet[at][0]] = wrong.get(sheet[at][0], 0) + 1
        for word, _ in TENSE_FORMS:
            self.assertGreater(wrong.get(word, 0), 0, word)

    def test_exchanged_ones(self):
        source = chance(345)
        for _ in range(60):
            sheet = random_sheet(source, "ab", TENSE_FORMS, 6)
            told = list(derive_tense("ab", sheet))
            one, other = sorted(source.sample(range(6), 2))
            alike = told[one] == told[other]
            told[one], told[other] = told[other], told[one]
            self.assertEqual(first_wrong_tense("ab", sheet, told), 6 if alike else one)

    def test_the_first_one(self):
        sheet = (("letter", "a"), ("next", 0), ("until", 0, 1))
        told = derive_tense("ab", sheet)
        for number in range(3):
            self.assertEqual(first_wrong_tense("ab", sheet, told[:number] + (None,) * (3 - number)), number)
        # A step that is right for the wrong one ahead of it does no good.
        self.assertEqual(first_wrong_tense("ab", sheet, derive_tense("ab", (("letter", "b"),) + sheet[1:])), 0)

    def test_a_wrong_step_of_an_equal_part(self):
        sheet = (("letter", "a"), ("next", 0), ("next", 0), ("not", 1))
        told = derive_tense("ab", sheet)
        self.assertEqual(first_wrong_tense("ab", sheet, told), 4)
        self.assertEqual(first_wrong_tense("ab", sheet, told[:2] + (told[3], told[3])), 2)

    def test_edges_of_rows(self):
        # Right but for the last, or the first, place of a row, or but for rows of two letters.
        cases = (
            (("next", 0), ((0, "a", 0), (0, "a", 2), (0, "b", 2)), ((1, 1), (2, 1), (2, 1))),
            (("until", 0, 0), ((0, "a", 0), (0, "a", 2), (0, "b", 2)), ((1, 1), (2, 1), (2, 1))),
        )
        for part, marked, right in cases:
            sheet = (("letter", "a"), part)
            told = derive_tense("ab", sheet)
            self.assertEqual(first_wrong_tense("ab", sheet, (told[0], Pair("ab", TWO, right, marked))), 1)
        last = Pair("ab", TWO, ((1, 1), (1, 1)), ((0, "a", 0), (0, "b", 0)))
        for word in ("next", "prev"):
            sheet = (("yes",), (word, 0))
            told = derive_tense("ab", sheet)
            self.assertEqual(first_wrong_tense("ab", sheet, (told[0], ~told[1])), 1)
            self.assertEqual(first_wrong_tense("ab", sheet, (told[0], told[0])), 1)
            self.assertEqual(first_wrong_tense("ab", sheet, (told[0], told[1] | last)), 1)
            self.assertEqual(first_wrong_tense("ab", sheet, told), 2)

    def test_other_things(self):
        sheet = (("letter", "a"), ("next", 0))
        told = derive_tense("ab", sheet)
        for thing in (None, 0, True, "ab", {}, {0: told[0], 1: told[1]}, told[0], (), told[:1], told + told[:1], [], 1.5):
            self.assertEqual(first_wrong_tense("ab", sheet, thing), -1)
        for thing in (None, 0, "next", (), told, Reader("ab", "", TWO, ()), derive_tense("abc", sheet)[1], derive_tense("ac", sheet)[1],
                      (told[1].left, told[1].right, told[1].marked)):
            self.assertEqual(first_wrong_tense("ab", sheet, (told[0], thing)), 1)
            self.assertEqual(first_wrong_tense(pairs=[thing, told[1]], sheet=sheet, alphabet="ab"), 0)
        self.assertEqual(first_wrong_tense("abc", sheet, told), 0)

    def test_never_too_many(self):
        sheet = chain("next", 41)
        told = derive_tense("a", sheet[:40])
        self.assertEqual(first_wrong_tense("a", sheet, told + told[:2]), 40)
        self.assertEqual(first_wrong_tense("a", sheet, told + (told[39], told[39])), 40)
        sheet = (("letter", "b"),) + tuple(("next", k) for k in range(7))
        told = derive_tense("ab", sheet[:5])
        for pair in told:
            self.assertEqual(first_wrong_tense("ab", sheet, told + (pair, pair, pair)), 5)

    def test_nothing_is_changed(self):
        sheet = as_lists(ALL_FORMS)
        told = list(derive_tense("ab", sheet))
        before = copy.deepcopy(sheet), list(told)
        self.assertEqual(first_wrong_tense("ab", sheet, told), len(sheet))
        self.assertEqual((sheet, told), before)


if __name__ == "__main__":
    unittest.main()
