"""Least pairs and what parts their standings ([12])."""

import unittest

from saidhere.leastpair import least, parted_ahead, parted_behind
from saidhere.pairs import Pair
from tests.plainly import chance, classes, counter, is_tuples, marked_of, pair_marks, placed, random_pair_parts
from tests.plainly import rows, table

SIZES = (("ab", 3, 3, 5), ("bd", 3, 3, 5), ("a", 4, 9, 9), ("abc", 2, 2, 4))


def parts(pair):
    return pair.alphabet, pair.left, pair.right, pair.marked


def told_of(pair):
    """The marks of a pair by definition, each row read once."""
    held = {}

    def telling(row):
        if row not in held:
            held[row] = pair_marks(pair, row)
        return held[row]

    return telling


def plainly_parted(alphabet, telling, leasts, side, most):
    """What parts each two classes by definition, with rows of at most `most` letters."""
    told = []
    tried = placed(alphabet, most)
    for p, u in enumerate(leasts):
        for o in range(p + 1, len(leasts)):
            w = leasts[o]
            for row, place in tried:
                if side == "left":
                    unlike = telling(u + row)[len(u) + place] != telling(w + row)[len(w) + place]
                else:
                    unlike = telling(row + u)[place] != telling(row + w)[place]
                if unlike:
                    told.append((p, o, row, place))
                    break
    return tuple(told)


class Least(unittest.TestCase):
    def test_by_definition(self):
        source = chance(10)
        for alphabet, big, most, further in SIZES:
            for _ in range(40):
                pair = Pair(*random_pair_parts(source, alphabet, big))
                kept = parts(pair)
                left, right, told = table(alphabet, told_of(pair), most, further)
                small = least(pair)
                self.assertEqual(parts(small), (alphabet, left, right, marked_of(alphabet, told)))
                self.assertEqual(least(small), small)
                self.assertEqual(parts(pair), kept)
                self.assertTrue(all(is_tuples(thing) for thing in parts(small)))

    def test_told_by_hand(self):
        # Standings that are alike, to which no row leads, and numbered in another order.
        pair = Pair(
            "ab",
            ((3, 1), (1, 3), (2, 2), (1, 3), (0, 0)),
            ((2, 2), (1, 0), (2, 2)),
            ((0, "a", 0), (0, "b", 2), (2, "a", 0), (4, "b", 1)),
        )
        self.assertEqual(parts(least(pair)), (
            "ab", ((1, 1), (1, 1)), ((1, 1), (1, 1)), ((0, "a", 0), (0, "b", 1)),
        ))

    def test_standings_to_which_no_row_leads_do_not_matter(self):
        # On the left they differ on the right in a standing only that is not reached, and the other way round.
        left = ((0, 0), (1, 1))
        right = ((1, 0), (0, 0), (2, 2))
        pair = Pair("ab", left, right, ((0, "a", 2), (0, "b", 2), (1, "a", 0), (1, "b", 1)))
        nothing = ("ab", ((0, 0),), ((0, 0),), ())
        self.assertEqual(parts(least(pair)), nothing)
        self.assertEqual(parts(least(Pair("ab", right, left, ((0, "b", 1), (2, "a", 0))))), nothing)

    def test_the_order_on_the_right_is_that_of_the_rows_as_written(self):
        # The right standings tell the first two letters of the row behind: b..: , ab, aa, and so on.
        states = ["", "a", "b", "aa", "ab", "ba", "bb"]
        moves = tuple(tuple(states.index((x + s)[:2]) for x in "ab") for s in states)
        for number in range(1, 7):
            pair = Pair("ab", ((0, 0),), moves, ((0, "a", number),))
            left, right, told = table("ab", told_of(pair), 3, 4)
            self.assertEqual(parts(least(pair)), ("ab", left, right, marked_of("ab", told)))
        # Reversed, the row ba behind would be read first a, then b.
        pair = Pair("ab", ((0, 0),), moves, ((0, "a", 4), (0, "a", 5), (0, "b", 4)))
        leasts, _ = classes("ab", told_of(pair), "right", 4, 4)
        self.assertEqual(leasts, ["", "a", "b", "ab", "ba"])
        self.assertEqual([len(least(pair).right), len(least(pair).left)], [5, 1])
        self.assertEqual(least(pair).marked, ((0, "a", 3), (0, "a", 4), (0, "b", 3)))

    def test_the_empty_row_leads_to_the_first_standing(self):
        pair = Pair("ab", ((1, 1), (0, 0)), ((1, 1), (1, 1)), ((0, "a", 0), (1, "a", 1)))
        small = least(pair)
        self.assertEqual(small("a"), (True,))
        self.assertEqual(parts(small)[1:3], (((1, 1), (0, 0)), ((1, 1), (1, 1))))

    def test_40_standings(self):
        moves = counter(2, 40)
        pair = Pair("ab", moves, moves, ((7, "a", 11), (30, "b", 3)))
        small = least(pair)
        self.assertEqual((small.left, small.right), (moves, moves))
        # The same counts, but the standing of the count k is 3 * k modulo 40.
        turned = tuple(((standing + 3) % 40, standing) for standing in range(40))
        small = least(Pair("ab", turned, turned, ((21, "a", 33), (10, "b", 9))[::-1]))
        self.assertEqual(parts(small), ("ab", moves, moves, ((7, "a", 11), (30, "b", 3))))
        whole = tuple((p, x, q) for p in range(40) for x in "ab" for q in range(40))
        self.assertEqual(parts(least(Pair("ab", moves, moves, whole))),
                         ("ab", ((0, 0),), ((0, 0),), ((0, "a", 0), (0, "b", 0))))

    def test_alike_marks_have_equal_least_pairs(self):
        source = chance(11)
        pairs = [Pair(*random_pair_parts(source, "ab", 2)) for _ in range(40)]
        told = [[pair_marks(pair, row) for row in rows("ab", 5)] for pair in pairs]
        for one, x in zip(pairs, told):
            for other, y in zip(pairs, told):
                self.assertEqual(least(one) == least(other), x == y)

    def test_by_name(self):
        pair = Pair("ab", ((0, 0),), ((0, 0),), ())
        self.assertEqual(least(pair=pair), pair)
        self.assertEqual((parted_ahead(pair=pair), parted_behind(pair=pair)), ((), ()))


class Parted(unittest.TestCase):
    def test_by_definition(self):
        source = chance(12)
        for alphabet, big, most, further in SIZES:
            for _ in range(30):
                pair = Pair(*random_pair_parts(source, alphabet, big))
                telling = told_of(pair)
                for side, parting in (("left", parted_ahead), ("right", parted_behind)):
                    leasts, _ = classes(alphabet, telling, side, most, further)
                    wanted = plainly_parted(alphabet, telling, leasts, side, further)
                    self.assertEqual(parting(pair), wanted)
                    self.assertTrue(is_tuples(parting(pair)))

    def test_told_by_hand(self):
        even = Pair("ab", ((1, 0), (0, 1)), ((0, 0),), ((0, "b", 0),))
        self.assertEqual(parted_ahead(even), ((0, 1, "b", 0),))
        self.assertEqual(parted_behind(even), ())
        lastly = Pair("ab", ((0, 0),), ((1, 1), (2, 2), (2, 2)), ((0, "a", 2), (0, "b", 2)))
        self.assertEqual(parted_ahead(lastly), ())
        self.assertEqual(parted_behind(lastly), ((0, 1, "aa", 0), (0, 2, "a", 0), (1, 2, "a", 0)))

    def test_the_least_row_goes_ahead_of_the_least_place(self):
        # Behind the row a, a letter b parts it from the others at once; a letter a does so one place later.
        left = ((1, 2), (3, 2), (2, 2), (2, 2))
        pair = Pair("ab", left, ((0, 0), (0, 0)), ((1, "b", 0), (3, "a", 0)))
        told = parted_ahead(pair)
        self.assertEqual(told[:3], ((0, 1, "b", 0), (0, 2, "ab", 1), (0, 3, "a", 0)))
        self.assertEqual(told[3:], ((1, 2, "b", 0), (1, 3, "a", 0), (2, 3, "a", 0)))
        # A row of two letters that begins with a goes ahead of one that begins with b, whatever the place.
        left = ((1, 1), (2, 3), (2, 2), (2, 2))
        pair = Pair("ab", left, ((1, 0), (1, 1)), ((0, "b", 0), (1, "a", 0)))
        telling = told_of(pair)
        leasts, _ = classes("ab", telling, "left", 3, 5)
        self.assertEqual(parted_ahead(pair), plainly_parted("ab", telling, leasts, "left", 5))

    def test_long_counts(self):
        moves = counter(2, 40)
        pair = Pair("ab", moves, ((0, 0),), ((0, "a", 0), (0, "b", 0)))
        told = parted_ahead(pair)
        self.assertEqual(len(told), 780)
        self.assertEqual([item[:2] for item in told], [(p, o) for p in range(40) for o in range(p + 1, 40)])
        for p, o, row, place in told:
            steps = min((40 - p) % 40, (40 - o) % 40)
            counted = "a" * steps + "a"
            self.assertEqual((row, place), (counted, steps))
        turned = Pair("ab", ((0, 0),), moves, ((0, "a", 0), (0, "b", 0)))
        for p, o, row, place in parted_behind(turned):
            steps = min((40 - p) % 40, (40 - o) % 40)
            self.assertEqual((row, place), ("a" * (steps + 1), 0))

    def test_they_are_those_of_the_least_pair(self):
        pair = Pair("ab", ((0, 1), (1, 0), (0, 0)), ((0, 0), (1, 0)), ((0, "a", 0), (0, "a", 1), (1, "a", 0)))
        self.assertEqual(len(pair.left), 3)
        self.assertEqual(parted_ahead(pair), ())
        self.assertEqual(parted_behind(pair), ())


if __name__ == "__main__":
    unittest.main()
