"""What the document promises over the whole program: where its points bind each other."""

import unittest

from saidhere.always import always, follows, judge_always
from saidhere.bearing import bearing
from saidhere.booklines import read_book, write_book
from saidhere.carrying import carried
from saidhere.census import census, shares
from saidhere.contests import Contest
from saidhere.delays import delay, endless_back, endless_later, reach, windows
from saidhere.desks import Desk
from saidhere.errors import TooMany, Unsayable
from saidhere.layers import Layer
from saidhere.layerworks import drawn_back, put_in
from saidhere.leastpair import least
from saidhere.lows import low
from saidhere.merging import idle, merged
from saidhere.missing import onto
from saidhere.mosts import most
from saidhere.pairs import Pair
from saidhere.pairworks import mirrored
from saidhere.ranked import number_of
from saidhere.rules import rewritten, sound
from saidhere.sayingpairs import pair_of, pairs_of_book
from saidhere.spots import Spot
from saidhere.tense import heights
from saidhere.tenseout import tense_of
from saidhere.tensetext import read_tense
from saidhere.through import through
from saidhere.turnings import is_steady
from saidhere.undoing import blurred, undone
from saidhere.ways import ways_back, ways_on
from tests.plainly import (
    TENSE_FORMS, chance, pair_marks, random_layer_parts, random_pair_parts, random_sheet, rows, steady_pair_parts,
)

LINES = (
    "book ab",
    "tense lastb b and not next yes",
    "named apart some y (y < x and a at y)",
    "cuts alone",
    "cut b",
    "ahead empty",
    "behind not (not none then b then not none)",
    "pair even",
    "left 1 0",
    "left 0 1",
    "right 0 0",
    "mark 0 a 0",
    "mark 0 b 0",
)


def sheets(source, alphabet, many, parts):
    """Tense sheets by chance whose derivations do not have too many standings, with their pairs."""
    while many:
        sheet = random_sheet(source, alphabet, TENSE_FORMS, parts)
        try:
            pair = pair_of(alphabet, ("tense", sheet))
        except TooMany:
            continue
        many -= 1
        yield sheet, pair


class MirroredPairs(unittest.TestCase):
    def test_delay_and_reach(self):
        source = chance(600)
        for _ in range(60):
            pair = Pair(*random_pair_parts(source, source.choice(("a", "ab", "bdh")), 3))
            turned = mirrored(pair)
            self.assertEqual((delay(turned), reach(turned)), (reach(pair), delay(pair)))
            self.assertEqual(endless_later(turned) is None, endless_back(pair) is None)

    def test_ways(self):
        source = chance(601)
        for _ in range(60):
            pair = Pair(*random_pair_parts(source, "ab", 3))
            row = "".join(source.choices("ab", k=5))
            for place in range(5):
                on, back = ways_on(mirrored(pair), row[::-1], 4 - place), ways_back(pair, row, place)
                self.assertEqual([z is None for z in on], [z is None for z in back])
                # What is a way on here is, reversed, a way back there, of the same length.
                for z, wanted in zip(on, (True, False)):
                    if z is not None:
                        self.assertIs(pair_marks(pair, z[::-1] + row)[place + len(z)], wanted)
                self.assertEqual([z and len(z) for z in on], [z and len(z) for z in back])

    def test_windows(self):
        source = chance(602)
        done = 0
        for _, pair in sheets(source, "ab", 120, 4):
            told = windows(pair)
            if told is None:
                self.assertIsNone(windows(mirrored(pair)))
                continue
            done += 1
            turned = sorted((tail[::-1], letter, head[::-1], marked) for head, letter, tail, marked in told)
            self.assertEqual(list(windows(mirrored(pair))), turned)
        self.assertGreater(done, 30)


class FollowingMarks(unittest.TestCase):
    def test_alike_exactly_if_each_follows_from_the_other(self):
        source = chance(603)
        for _ in range(80):
            one = Pair(*random_pair_parts(source, "ab", 3))
            other = source.choice((Pair(*random_pair_parts(source, "ab", 2)), least(one), one & one))
            self.assertEqual(follows(one, other).holds and follows(other, one).holds, least(one) == least(other))

    def test_what_is_let_most_often(self):
        source = chance(604)
        for _ in range(60):
            wish, claim = (Pair(*random_pair_parts(source, "ab", 3)) for _ in range(2))
            # The claim holds always exactly if its contrary can't mark in a row that is let.
            against = most(wish, ~claim)
            self.assertEqual(always(wish, claim).holds, against.bounded and against.number == 0)


class SheetsMadeShorter(unittest.TestCase):
    def test_merged_and_idle_and_rewritten(self):
        source = chance(605)
        rule = ((("mark", 0), ("not", 0), ("not", 1)), (("mark", 0),))
        self.assertTrue(sound(rule))
        for sheet, pair in sheets(source, "ab", 60, 8):
            told = merged("ab", sheet)
            self.assertEqual(pair_of("ab", ("tense", told)), pair)
            self.assertLessEqual(heights("ab", told)[-1], max(heights("ab", sheet)))
            try:
                away = idle("ab", sheet)
            except TooMany:
                continue
            self.assertNotIn(len(sheet) - 1, away)
            longer = sheet + (("not", len(sheet) - 1), ("not", len(sheet)))
            shorter = rewritten("ab", longer, len(sheet) + 1, rule, (len(sheet) - 1,))
            self.assertEqual(pair_of("ab", ("tense", shorter)), pair)

    def test_idle_parts_replaced_one_by_one(self):
        source = chance(606)
        for sheet, pair in sheets(source, "ab", 40, 7):
            try:
                away = idle("ab", sheet)
            except TooMany:
                continue
            for number in away:
                for part in (("yes",), ("no",)):
                    other = sheet[:number] + (part,) + sheet[number + 1:]
                    self.assertEqual(pair_of("ab", ("tense", other)), pair)


class Layers(unittest.TestCase):
    def clear_layers(self, source, many):
        while many:
            layer = Layer(*random_layer_parts(source, "ab", source.choice(("ab", "bh")), 3))
            if blurred(layer) is None:
                many -= 1
                yield layer

    def test_what_undoes_a_layer_gives_back_what_was(self):
        source = chance(607)
        for layer in self.clear_layers(source, 25):
            back = undone(layer)
            self.assertEqual(layer * back, Layer.same("ab"))
            self.assertEqual(back * layer, Layer.same(layer.target))
            pair = Pair(*random_pair_parts(source, "ab", 2))
            try:
                there = drawn_back(back, pair)
            except TooMany:
                continue
            self.assertEqual(there.alphabet, layer.target)
            self.assertEqual(drawn_back(layer, there), least(pair))
            for row in rows("ab", 4):
                self.assertEqual(pair_marks(there, layer(row)), pair_marks(pair, row))
                told = bearing(layer, layer(row))
                self.assertEqual((told.number, told.least, told.greatest, told.sure), (1, row, row, tuple(row)))
            self.assertTrue(onto(layer))

    def test_sheets_put_in_and_carried_to_the_other_tongues(self):
        source = chance(608)
        done = 0
        while done < 12:
            parts = steady_pair_parts(source, "ab", 2, 2)
            mark = Pair(*parts)
            still = Layer("ab", "ab", mark.left, mark.right, tuple(
                tuple(tuple("b" if (p, a, q) in mark.marked else "a" for q in range(2)) for a in "ab") for p in range(2)))
            sheets_given = [tense_of(still.mark_of(letter)) for letter in "ab"]
            sheet = read_tense("ab", source.choice(("a until b", "next a", "prev (a or b)", "b since a and not next yes")))
            told = put_in("ab", "ab", sheets_given, sheet)
            drawn = drawn_back(still, pair_of("ab", ("tense", sheet)))
            self.assertEqual(pair_of("ab", ("tense", told)), drawn)
            for kind in ("tense", "named", "cuts", "pair"):
                try:
                    other = carried("ab", ("tense", told), kind)
                except TooMany:
                    continue
                if kind != "named" or len(other[1]) < 400:
                    self.assertEqual(pair_of("ab", other), drawn)
            done += 1

    def test_a_glass_is_a_layer_of_one_standing_a_side(self):
        source = chance(609)
        for _ in range(60):
            pair = Pair(*random_pair_parts(source, "abc", 2))
            glass = "".join(source.choices("ab", k=3))
            target = "".join(sorted(set(glass)))
            layer = Layer("abc", target, ((0, 0, 0),), ((0, 0, 0),), [[[letter] for letter in glass]])
            told = through(pair, glass)
            if told:
                self.assertEqual(drawn_back(layer, told.pair), least(pair))
            else:
                self.assertEqual(layer(told.row), layer(told.other))

    def test_the_numbers_of_the_rows_behind_add_up(self):
        source = chance(610)
        for _ in range(25):
            alphabet, target = source.choice((("ab", "ab"), ("abc", "ab"), ("ab", "bdh")))
            layer = Layer(*random_layer_parts(source, alphabet, target, 3))
            for length in range(1, 5):
                led = {row: bearing(layer, row).number for row in rows(target, length, length)}
                self.assertEqual(sum(led.values()), len(alphabet) ** length)
                self.assertEqual(onto(layer).holds and 0 in led.values(), False)
                for letter in target:
                    counted = census(layer.mark_of(letter), length)
                    wanted = [0] * (length + 1)
                    for row, many in led.items():
                        wanted[row.count(letter)] += many
                    self.assertEqual(counted, tuple(wanted))
                    wanted = [sum(many for row, many in led.items() if row[k] == letter) for k in range(length)]
                    self.assertEqual(shares(layer.mark_of(letter), length), tuple(wanted))


class Heights(unittest.TestCase):
    def test_heights_bound_what_sheets_part(self):
        source = chance(611)
        for sheet, pair in sheets(source, "ab", 40, 7):
            height = heights("ab", sheet)[-1]
            found = low(pair)
            self.assertLessEqual(min(found.height, 2), max(height, 0) if found.height < 2 else height)
            for _ in range(6):
                one, other = ("".join(source.choices("ab", k=source.randint(1, 6))) for _ in range(2))
                contest = Contest("ab", one, other)
                for k, marked in enumerate(pair_marks(pair, one)):
                    for m, there in enumerate(pair_marks(pair, other)):
                        if marked != there:
                            self.assertLessEqual(contest.parting_height(k, m), height)
            if found.unlike is not None and max(len(found.unlike[0]), len(found.unlike[2])) <= 12:
                row, place, other, there = found.unlike
                # What is alike to the height that is less by 1 is parted by the mark, so at its height at most.
                self.assertTrue(found.height <= Contest("ab", row, other).parting_height(place, there) <= height)

    def test_parting_sheets_told_in_all_tongues(self):
        contest = Contest("ab", "abba", "abab")
        for k in range(4):
            for m in range(4):
                sheet = contest.parting_sheet(k, m)
                pair = pair_of("ab", ("tense", sheet))
                self.assertEqual((("abba", k) in pair, ("abab", m) in pair), (True, False))
                self.assertTrue(is_steady(pair))


class BooksAndDesks(unittest.TestCase):
    def test_a_book_of_all_four_kinds(self):
        book = read_book(LINES)
        self.assertEqual(tuple(write_book(book)), LINES)
        pairs = pairs_of_book(book)
        desk = Desk("ab", "", tuple(zip(book.names, pairs)))
        self.assertEqual(desk.mark_names, book.names)
        for name, pair in zip(book.names, pairs):
            self.assertEqual(pair_of("ab", book[name]), pair)
            for kind in ("tense", "named", "cuts", "pair"):
                try:
                    other = carried("ab", book[name], kind)
                except Unsayable as error:
                    self.assertEqual((name, error.side, error.count), ("even", "left", 2))
                    continue
                self.assertEqual(other[0], kind)
                self.assertEqual(pair_of("ab", other), pair)
        wanted = {
            "lastb": lambda row, k: row[k] == "b" and k == len(row) - 1,
            "apart": lambda row, k: "a" in row[:k],
            "alone": lambda row, k: row[k] == "b" and k == 0 and "b" not in row[1:],
            "even": lambda row, k: row[:k].count("a") % 2 == 0,
        }
        for row in rows("ab", 5):
            desk.become(row)
            for name in book.names:
                self.assertEqual(desk.marks(name), tuple(wanted[name](row, k) for k in range(len(row))))

    def test_a_desk_and_spot_readers(self):
        source = chance(612)
        pairs = pairs_of_book(read_book(LINES))
        desk = Desk("ab", "", [(f"m{'abcd'[k]}", pair) for k, pair in enumerate(pairs)])
        spots = [Spot(pair) for pair in pairs]
        for _ in range(12):
            letter = source.choice("ab")
            turned = desk.put(len(desk.live), letter)
            for name, spot in zip(desk.mark_names, spots):
                sure = [place for place, worth in enumerate(spot.known) if worth is not None]
                spot.read(letter)
                # What was sure is not turned by a letter behind it.
                self.assertEqual([place for place in sure if (name, place) in turned], [])
                for worth, marked in zip(spot.known, desk.marks(name)):
                    self.assertIn(worth, (None, marked))
        for name, spot in zip(desk.mark_names, spots):
            spot.end()
            self.assertEqual(spot.known, desk.marks(name))

    def test_numbers_of_the_rows_of_a_desk(self):
        pair = pairs_of_book(read_book(LINES))[1]
        desk = Desk("ab", "", (("m", pair),))
        numbers = {}
        for row in rows("ab", 4, 4):
            desk.live = row
            marked = sum(desk.marks("m"))
            self.assertEqual(number_of(pair, desk.live), numbers.get(marked, 0))
            numbers[marked] = numbers.get(marked, 0) + 1
        self.assertEqual(tuple(numbers.get(m, 0) for m in range(5)), census(pair, 4))


class Judges(unittest.TestCase):
    def test_tables_that_others_write_hold_for_all_rows(self):
        # Tables of all gaps at which the claim's readers have met no b, whether or not ways lead there.
        wish = Pair.of_letters("ab", "a")
        claim = pair_of("ab", ("tense", read_tense("ab", "not (yes since b) and not (yes until b)")))
        self.assertEqual((claim.left, claim.right), (((0, 1), (1, 1)),) * 2)
        self.assertTrue(judge_always(wish, claim, ((0, 0, 0, 0), (0, 0, 0, 1)), ((0, 0, 0, 0), (0, 1, 0, 0))))
        self.assertTrue(always(wish, claim))
        # The last row of a table that is right for this wish is not for one that lets more.
        every = Pair.of_letters("ab", "ab")
        self.assertFalse(judge_always(every, claim, ((0, 0, 0, 0), (0, 0, 0, 1)), ((0, 0, 0, 0), (0, 1, 0, 0))))
        self.assertEqual(always(every, claim).row, "ab")


if __name__ == "__main__":
    unittest.main()
