"""Desks ([50]) and what their deeds can turn ([51])."""

import copy
import unittest

from saidhere.delays import delay, reach
from saidhere.desks import Desk
from saidhere.errors import (
    BadAlphabet, BadEntry, BadLetter, BadName, BadPlace, BadRow, NoDeed, SaidError, TooLong, TooMany, Twice, Unknown, Unlike,
)
from saidhere.pairs import Pair
from saidhere.sayingpairs import pair_of
from saidhere.tensetext import read_tense
from tests.plainly import as_lists, chance, counter, is_tuples, pair_marks, random_pair_parts
from tests.test_plain import NO_ALPHABETS

LETTER = Pair.of_letters("ab", "b")
NEXT = pair_of("ab", ("tense", read_tense("ab", "next b")))
EVEN = Pair("ab", counter(2, 2, (0, 1)), ((0, 0),), ((0, "a", 0), (0, "b", 0)))
MARKS = (("letter", LETTER), ("next", NEXT), ("even", EVEN))


class Plain:
    """A desk by definition: each letter of the row is a thing of its own."""

    def __init__(self, row, marks):
        self.cells = [[letter] for letter in row]
        self.marks = dict(marks)
        self.done, self.undone = [], []

    def row(self):
        return "".join(cell[0] for cell in self.cells)

    def marked(self):
        """For each letter, as a thing, the names of the marks at it."""
        told = {name: pair_marks(pair, self.row()) for name, pair in self.marks.items()}
        return {id(cell): {name for name in told if told[name][k]} for k, cell in enumerate(self.cells)}

    def apply(self, deed):
        before = self.marked()
        held = list(self.cells)
        word = deed[0]
        if word == "put":
            self.cells.insert(deed[1], [deed[2]])
        elif word == "take":
            del self.cells[deed[1]]
        elif word == "change":
            self.cells[deed[1]][0] = deed[3]
        else:
            self.cells = [[letter] for letter in deed[2]]
        after = self.marked()
        turned = [
            (name, k) for k, cell in enumerate(self.cells) if any(cell is other for other in held)
            for name in self.marks if (name in before[id(cell)]) != (name in after[id(cell)])
        ]
        return tuple(sorted(turned))

    def do(self, word, *things):
        row = self.row()
        deed = {
            "put": lambda: ("put", *things), "take": lambda: ("take", things[0], row[things[0]]),
            "change": lambda: ("change", things[0], row[things[0]], things[1]), "become": lambda: ("become", row, things[0]),
        }[word]()
        self.done.append(deed)
        self.undone = []
        return self.apply(deed)

    def undo(self):
        deed = self.done.pop()
        self.undone.append(deed)
        word = deed[0]
        back = {"put": "take", "take": "put", "change": "change", "become": "become"}[word]
        things = {"change": deed[1:2] + deed[:1:-1], "become": deed[:0:-1]}.get(word, deed[1:])
        return self.apply((back, *things))

    def redo(self):
        deed = self.undone.pop()
        self.done.append(deed)
        return self.apply(deed)


def deed_by_chance(source, alphabet, length, undone, done):
    word = source.choice(("put", "put", "take", "change", "change", "become", "undo", "undo", "redo"))
    if word == "put":
        return word, source.randint(0, length), source.choice(alphabet)
    if word == "become":
        return word, "".join(source.choices(alphabet, k=source.randint(0, 6)))
    if word in ("take", "change") and length:
        return (word, source.randrange(length)) + ((source.choice(alphabet),) if word == "change" else ())
    if word == "undo" and done or word == "redo" and undone:
        return (word,)
    return "put", 0, alphabet[0]


def do_by_chance(source, desk):
    """Do a deed, or find that there is none to be undone or done again."""
    deed = deed_by_chance(source, "ab", len(desk.live), True, True)
    try:
        getattr(desk, deed[0])(*deed[1:])
    except NoDeed:
        pass


def all_of(desk):
    """All that a desk shows, and what can be undone and done again."""
    other = desk.copy()
    marks = tuple(desk.marks(name) for name in desk.mark_names)
    more = []
    while True:
        try:
            more.append((other.redo(), other.live, other.log))
        except NoDeed:
            break
    return desk.alphabet, desk.live, desk.log, desk.mark_names, marks, more


class Deeds(unittest.TestCase):
    def test_by_definition(self):
        source = chance(500)
        for _ in range(60):
            alphabet = source.choice(("a", "ab", "bdh"))
            marks = tuple((name, Pair(*random_pair_parts(source, alphabet, 3))) for name in ("c", "b", "aa")[:source.randint(0, 3)])
            row = "".join(source.choices(alphabet, k=source.randint(0, 6)))
            desk, plain = Desk(alphabet, row, marks), Plain(row, marks)
            for _ in range(40):
                deed = deed_by_chance(source, alphabet, len(plain.cells), plain.undone, plain.done)
                told = getattr(desk, deed[0])(*deed[1:])
                wanted = plain.undo() if deed[0] == "undo" else plain.redo() if deed[0] == "redo" else plain.do(*deed)
                self.assertEqual(told, wanted, deed)
                self.assertTrue(is_tuples(told))
                self.assertEqual((desk.live, desk.log), (plain.row(), tuple(plain.done)))
                for name, pair in marks:
                    self.assertEqual(desk.marks(name), pair_marks(pair, desk.live))

    def test_at_both_ends(self):
        desk = Desk(alphabet="ab", row="ab", marks=MARKS)
        self.assertEqual(desk.put(place=0, letter="b"), (("even", 1), ("even", 2)))
        self.assertEqual(desk.put(3, "b"), (("next", 2),))
        self.assertEqual(desk.live, "babb")
        self.assertEqual(desk.take(place=3), (("next", 2),))
        self.assertEqual(desk.take(0), (("even", 0), ("even", 1)))
        self.assertEqual(desk.change(place=1, letter="a"), (("letter", 1), ("next", 0)))
        self.assertEqual(desk.change(1, "a"), ())
        self.assertEqual(desk.change(0, "b"), (("letter", 0),))
        self.assertEqual(desk.become(row=""), ())
        self.assertEqual(desk.put(0, "b"), ())
        self.assertEqual(desk.take(0), ())
        self.assertEqual(desk.log, (
            ("put", 0, "b"), ("put", 3, "b"), ("take", 3, "b"), ("take", 0, "b"), ("change", 1, "b", "a"),
            ("change", 1, "a", "a"), ("change", 0, "a", "b"), ("become", "ba", ""), ("put", 0, "b"), ("take", 0, "b"),
        ))

    def test_undo_and_redo(self):
        desk = Desk("ab", "ab", MARKS)
        for word in ("undo", "redo"):
            with self.assertRaises(NoDeed) as held:
                getattr(desk, word)()
            self.assertEqual(held.exception.word, word)
        desk.put(0, "b")
        desk.change(0, "a")
        desk.become("bb")
        self.assertEqual((desk.undo(), desk.live), ((), "aab"))
        self.assertEqual((desk.undo(), desk.live), ((("letter", 0),), "bab"))
        self.assertEqual((desk.undo(), desk.live), ((("even", 0), ("even", 1)), "ab"))
        self.assertEqual(desk.log, ())
        with self.assertRaises(NoDeed):
            desk.undo()
        self.assertEqual((desk.redo(), desk.live), ((("even", 1), ("even", 2)), "bab"))
        self.assertEqual((desk.redo(), desk.redo(), desk.live), ((("letter", 0),), (), "bb"))
        with self.assertRaises(NoDeed):
            desk.redo()
        # A new deed drops what was undone; an error does not.
        desk.undo()
        with self.assertRaises(BadPlace):
            desk.take(9)
        self.assertEqual((desk.redo(), desk.live), ((), "bb"))
        desk.undo()
        desk.change(0, "a")
        with self.assertRaises(NoDeed) as held:
            desk.redo()
        self.assertEqual((held.exception.word, desk.live, len(desk.log)), ("redo", "aab", 3))

    def test_live(self):
        desk = Desk("ab", "ab", MARKS)
        desk.live = "bba"
        self.assertEqual((desk.live, desk.log), ("bba", (("become", "ab", "bba"),)))
        self.assertEqual(desk.marks(name="letter"), (True, True, False))
        for row, at in (("abx", 2), ("a" * 201, -1), (None, -1)):
            with self.assertRaises(BadRow) as held:
                desk.live = row
            self.assertEqual(held.exception.at, at)
        desk.undo()
        self.assertEqual((desk.live, desk.log), ("ab", ()))
        for name in ("log", "mark_names"):
            with self.assertRaises(AttributeError):
                setattr(desk, name, ())

    def test_200_letters(self):
        desk = Desk("ab", "ab" * 100, MARKS)
        with self.assertRaises(TooLong) as held:
            desk.put(200, "a")
        self.assertEqual(held.exception.number, 201)
        for place, letter, error in ((201, "c", BadPlace), (200, "c", BadLetter), (-1, "a", BadPlace)):
            with self.assertRaises(error):
                desk.put(place, letter)
        self.assertEqual((desk.live, desk.log), ("ab" * 100, ()))
        desk.take(199)
        self.assertEqual(desk.put(199, "b"), (("next", 198),))
        desk.undo()
        desk.undo()
        self.assertEqual(desk.live, "ab" * 100)
        desk.become("b" * 200)
        self.assertEqual(desk.marks("even"), (True, False) * 100)

    def test_errors_of_deeds(self):
        desk = Desk("ab", "ab", MARKS)
        for thing in (-1, 3, True, False, None, "0", (0,), 1.0, 10 ** 59):
            with self.assertRaises(BadPlace) as held:
                desk.put(thing, None)
            self.assertIs(held.exception.thing, thing)
        for thing in (-1, 2, 3, True, None, "0"):
            for call in (desk.take, lambda place: desk.change(place, None)):
                with self.assertRaises(BadPlace) as held:
                    call(thing)
                self.assertIs(held.exception.thing, thing)
        for thing in ("", "c", "ab", None, 0, ("a",), ["a"], b"a"):
            for call in (lambda letter: desk.put(2, letter), lambda letter: desk.change(1, letter)):
                with self.assertRaises(BadLetter) as held:
                    call(thing)
                self.assertIs(held.exception.thing, thing)
        for row, at in (("abx", 2), ("a" * 201, -1), (None, -1), (("a",), -1)):
            with self.assertRaises(BadRow) as held:
                desk.become(row)
            self.assertEqual(held.exception.at, at)
        self.assertEqual((desk.live, desk.log), ("ab", ()))
        empty = Desk("ab", "", ())
        for call in (lambda: empty.take(0), lambda: empty.change(0, "a")):
            with self.assertRaises(BadPlace):
                call()


class Making(unittest.TestCase):
    def test_errors_in_their_order(self):
        for thing in NO_ALPHABETS:
            with self.assertRaises(BadAlphabet) as held:
                Desk(thing, None, None)
            self.assertIs(held.exception.thing, thing)
        for row, at in (("abx", 2), ("a" * 201, -1), (None, -1)):
            with self.assertRaises(BadRow) as held:
                Desk("ab", row, None)
            self.assertEqual(held.exception.at, at)
        for marks in (None, 0, "ab", {}, {"a": LETTER}, LETTER):
            with self.assertRaises(BadEntry) as held:
                Desk("ab", "ab", marks)
            self.assertEqual(held.exception.number, -1)
        many = tuple((f"{'ab'[k // 10]}{'abcdefghij'[k % 10]}", LETTER) for k in range(20))
        for entry in (
            None, (), ("a",), ("a", LETTER, 1), "ab", (LETTER, "a"), ("", LETTER), ("abcdefghi", LETTER), ("A", LETTER), ("a1", LETTER),
            (None, LETTER), (0, LETTER), ("a", None), ("a", "b"), ("a", Pair.of_letters("abc", "a")), ("a", (LETTER,)), {"a": LETTER},
        ):
            for marks in ((many[0], entry), (many[0], entry, None), (many[0], entry) + many):
                with self.assertRaises(BadEntry) as held:
                    Desk("ab", "ab", marks)
                self.assertEqual(held.exception.number, 1, entry)
        with self.assertRaises(TooMany) as held:
            Desk("ab", "ab", many + many[:1])
        self.assertEqual(held.exception.word, "mark")
        with self.assertRaises(Twice) as held:
            Desk("ab", "ab", many[:3] + (many[2], many[1]))
        self.assertEqual(held.exception.name, many[2][0])
        desk = Desk("ab", "ab", many)
        self.assertEqual(desk.mark_names, tuple(name for name, _ in many))

    def test_lists_that_are_changed_later(self):
        marks = as_lists([[name, pair] for name, pair in MARKS])
        before = copy.copy(marks)
        desk = Desk("ab", "ab", marks)
        self.assertEqual(marks, before)
        marks[0][0] = "other"
        marks.pop()
        self.assertEqual((desk.mark_names, desk.marks("letter")), (("letter", "next", "even"), (False, True)))
        self.assertEqual((desk.alphabet, desk.live, desk.log), ("ab", "ab", ()))

    def test_marks(self):
        desk = Desk("ab", "ab", MARKS)
        for name in ("", "other", None, 0, True, ("letter",), ["letter"], {}, LETTER, b"next"):
            for call in (desk.marks, desk.take_off):
                with self.assertRaises(Unknown) as held:
                    call(name)
                self.assertIs(held.exception.name, name)
        self.assertEqual(Desk("ab", "", MARKS).marks("even"), ())


class PutOn(unittest.TestCase):
    def test_on_and_off(self):
        desk = Desk("ab", "ab", MARKS)
        self.assertIsNone(desk.put_on(name="all", pair=Pair.of_letters("ab", "ab")))
        self.assertEqual((desk.mark_names, desk.marks("all")), (("letter", "next", "even", "all"), (True, True)))
        self.assertIsNone(desk.take_off(name="next"))
        self.assertEqual(desk.mark_names, ("letter", "even", "all"))
        desk.put_on("next", LETTER)
        self.assertEqual((desk.mark_names, desk.marks("next")), (("letter", "even", "all", "next"), (False, True)))
        self.assertEqual(desk.log, ())
        # They are no deeds: what can be undone and done again stays.
        desk.put(0, "b")
        desk.undo()
        desk.take_off("letter")
        self.assertEqual((desk.redo(), desk.live), ((("even", 1), ("even", 2)), "bab"))

    def test_errors_in_their_order(self):
        other = Pair.of_letters("abc", "a")
        desk = Desk("ab", "ab", tuple((name, LETTER) for name in "abcdefghijklmnopqrs"))
        for thing in ("", "A", "abcdefghi", "a b", None, 0, True, ("a",), ["a"]):
            with self.assertRaises(BadName) as held:
                desk.put_on(thing, other)
            self.assertIs(held.exception.thing, thing)
        with self.assertRaises(Twice) as held:
            desk.put_on("c", other)
        self.assertEqual(held.exception.name, "c")
        with self.assertRaises(Unlike) as held:
            desk.put_on("t", other)
        self.assertEqual(held.exception.word, "alphabet")
        desk.put_on("t", LETTER)
        with self.assertRaises(TooMany) as held:
            desk.put_on("u", other)
        self.assertEqual(held.exception.word, "mark")
        with self.assertRaises(Twice):
            desk.put_on("t", other)
        self.assertEqual(desk.mark_names, tuple("abcdefghijklmnopqrst"))


class Trials(unittest.TestCase):
    def desk(self):
        desk = Desk("ab", "ab", MARKS)
        desk.put(0, "b")
        desk.change(1, "b")
        desk.undo()
        return desk

    def test_behind_the_block(self):
        desk = self.desk()
        before = all_of(desk)
        with desk.trial():
            desk.redo()
            desk.become("aaa")
            self.assertEqual((desk.live, len(desk.log)), ("aaa", 3))
        self.assertEqual(all_of(desk), before)
        with desk.trial():
            desk.undo()
            desk.put(0, "a")
            self.assertEqual((desk.live, desk.log), ("aab", (("put", 0, "a"),)))
        self.assertEqual(all_of(desk), before)

    def test_errors_in_the_block(self):
        desk = self.desk()
        before = all_of(desk)
        for error, call in ((BadPlace, lambda: desk.take(7)), (ZeroDivisionError, lambda: 1 // 0), (NoDeed, desk.redo)):
            with self.assertRaises(error):
                with desk.trial():
                    desk.become("b")
                    call()
            self.assertEqual(all_of(desk), before)

    def test_within_one_another(self):
        desk = self.desk()
        before = all_of(desk)
        with desk.trial():
            desk.put(0, "a")
            inner = all_of(desk)
            with desk.trial():
                desk.undo()
                desk.undo()
                self.assertEqual(desk.live, "ab")
                with desk.trial():
                    desk.become("")
                self.assertEqual(desk.live, "ab")
            self.assertEqual(all_of(desk), inner)
            with self.assertRaises(NoDeed):
                with desk.trial():
                    desk.become("")
                    desk.redo()
            self.assertEqual(all_of(desk), inner)
        self.assertEqual(all_of(desk), before)

    def test_one_trial_used_again(self):
        desk = self.desk()
        before = all_of(desk)
        trial = desk.trial()
        with trial:
            desk.become("a")
            with trial:
                desk.become("bbbb")
            self.assertEqual(desk.live, "a")
            with self.assertRaises(BadPlace):
                with trial:
                    desk.undo()
                    desk.take(9)
            self.assertEqual((desk.live, desk.undo(), desk.live), ("a", (), "bab"))
        self.assertEqual(all_of(desk), before)
        desk.become("bb")
        # What counts is when the block is entered.
        with trial:
            desk.become("a")
        self.assertEqual(desk.live, "bb")

    def test_two_trials_of_one_desk(self):
        desk = self.desk()
        before = all_of(desk)
        outer, inner = desk.trial(), desk.trial()
        with outer:
            desk.become("a")
            first = all_of(desk)
            with inner:
                desk.become("bb")
                second = all_of(desk)
                with outer:
                    desk.undo()
                    desk.undo()
                    with inner:
                        desk.become("aaaa")
                    self.assertEqual(desk.live, "bab")
                self.assertEqual(all_of(desk), second)
            self.assertEqual(all_of(desk), first)
        self.assertEqual(all_of(desk), before)
        with inner, outer, inner:
            desk.become("")
        self.assertEqual(all_of(desk), before)

    def test_a_trial_entered_again_after_its_block(self):
        desk = self.desk()
        trial = desk.trial()
        for row in ("", "a", "bb"):
            with trial:
                desk.become("abab")
            desk.become(row)
            before = all_of(desk)
            with self.assertRaises(BadRow):
                with trial:
                    desk.undo()
                    desk.become("c")
            self.assertEqual(all_of(desk), before)
        self.assertEqual([desk.undo(), desk.undo(), desk.undo()], [(), (), ()])
        self.assertEqual((desk.live, desk.log), ("bab", (("put", 0, "b"),)))

    def test_undo_and_redo_in_a_block(self):
        desk = self.desk()
        with desk.trial():
            self.assertEqual((desk.redo(), desk.live), ((("letter", 1), ("next", 0)), "bbb"))
            with desk.trial():
                desk.undo()
                desk.undo()
                self.assertEqual((desk.live, desk.log), ("ab", ()))
                self.assertRaises(NoDeed, desk.undo)
                desk.redo()
                desk.redo()
                self.assertRaises(NoDeed, desk.redo)
            self.assertEqual((desk.live, len(desk.log)), ("bbb", 2))
            desk.undo()
            desk.undo()
            self.assertEqual(desk.live, "ab")
        # Behind it the same can be undone and done again as ahead of it.
        desk.redo()
        self.assertEqual(desk.live, "bbb")
        desk.undo()
        desk.undo()
        self.assertEqual((desk.live, desk.log), ("ab", ()))
        desk.redo()
        desk.redo()
        self.assertRaises(NoDeed, desk.redo)
        self.assertEqual(desk.live, "bbb")

    def test_what_was_kept_ahead_of_the_block(self):
        desk = self.desk()
        other, state, log, told = desk.copy(), desk.state_now(), desk.log, desk.marks("next")
        kept = all_of(other)
        shown = (("bab", (("put", 0, "b"),), (("change", 1, "a", "b"),)), (("put", 0, "b"),), (False, True, False))
        self.assertEqual((state, log, told), shown)
        with desk.trial():
            desk.become("")
            desk.put(0, "b")
            within = desk.state_now()
            with desk.trial():
                desk.undo()
                self.assertEqual((within[0], state, log, told), ("b",) + shown)
            self.assertEqual(desk.state_now(), within)
        self.assertEqual((state, log, told), shown)
        self.assertEqual((within[0], len(within[1]), within[2]), ("b", 3, ()))
        self.assertEqual((desk.state_now(), all_of(desk), all_of(other)), (state, kept, kept))

    def test_trials_of_two_desks(self):
        one, two = self.desk(), Desk("ab", "b", MARKS)
        before = all_of(one), all_of(two)
        with one.trial():
            one.become("")
            with two.trial():
                two.become("aa")
                one.put(0, "a")
            self.assertEqual((one.live, all_of(two)), ("a", before[1]))
            two.become("ba")
        self.assertEqual((all_of(one), two.live), (before[0], "ba"))

    def test_by_chance(self):
        source = chance(503)
        for _ in range(30):
            desk = self.desk()
            self.block(source, desk, [desk.trial(), desk.trial()], 4)

    def block(self, source, desk, trials, deep):
        """Do deeds in a block, and blocks in it; some end with an error. Behind it all is what it was."""
        before = all_of(desk)
        try:
            with source.choice(trials + [desk.trial()]):
                for _ in range(source.randint(0, 4)):
                    do_by_chance(source, desk)
                    if deep:
                        self.block(source, desk, trials, deep - 1)
                if source.random() < 0.4:
                    raise ZeroDivisionError
        except ZeroDivisionError:
            pass
        self.assertEqual(all_of(desk), before)

    def test_marks_put_on_and_taken_off(self):
        desk = self.desk()
        with desk.trial():
            desk.put_on("all", Pair.of_letters("ab", "ab"))
            desk.take_off("next")
            desk.become("")
        self.assertEqual((desk.mark_names, desk.live), (("letter", "even", "all"), "bab"))
        with self.assertRaises(Unknown):
            with desk.trial():
                desk.take_off("all")
                desk.take_off("all")
        self.assertEqual(desk.mark_names, ("letter", "even"))


class Tried(unittest.TestCase):
    def test_each_kind(self):
        desk = Desk("ab", "ab", MARKS)
        before = all_of(desk)
        deeds = (
            ("put", 0, "b"), ("take", 0), ("undo",), ("redo",), ("change", 1, "a"), ("become", "bb"), ("put_on", "all", LETTER),
            ("take_off", "next"), ("tried", (("undo",), ("put", 0, "a"))), ("undo",),
        )
        told = desk.tried(deeds=deeds)
        self.assertEqual([row for _, row in told], ["bab", "ab", "bab", "ab", "aa", "bb", "bb", "bb", "bb", "aa"])
        self.assertEqual(told[0][0], (("even", 1), ("even", 2)))
        self.assertEqual((told[6], told[7]), (((), "bb"), ((), "bb")))
        self.assertEqual(told[8][0], (((), "aa"), ((("even", 1), ("even", 2)), "aaa")))
        self.assertTrue(is_tuples(told))
        self.assertEqual((all_of(desk)[1:3], desk.mark_names), (before[1:3], ("letter", "even", "all")))
        self.assertEqual(desk.tried(()), ())
        self.assertEqual(desk.tried([["put", 0, "b"], ["tried", [["take", 0]]]]), (
            ((("even", 1), ("even", 2)), "bab"), ((((("even", 0), ("even", 1)), "ab"),), "bab")))

    def test_by_definition(self):
        source = chance(501)
        for _ in range(40):
            desk = Desk("ab", "ab", MARKS)
            plain = Plain("ab", MARKS)
            deeds, wanted = [], []
            for _ in range(8):
                deed = deed_by_chance(source, "ab", len(plain.cells), plain.undone, plain.done)
                told = plain.undo() if deed[0] == "undo" else plain.redo() if deed[0] == "redo" else plain.do(*deed)
                deeds.append(deed)
                wanted.append((told, plain.row()))
            before = all_of(desk)
            self.assertEqual(desk.tried(tuple(deeds)), tuple(wanted))
            self.assertEqual(all_of(desk), before)

    def test_wrong_ones_at_each_place(self):
        desk = Desk("ab", "ab", MARKS)
        before = all_of(desk)
        for thing in (None, 0, "put", {}, {"put": 1}, LETTER):
            with self.assertRaises(BadEntry) as held:
                desk.tried(thing)
            self.assertEqual(held.exception.number, -1)
        good = ("put", 0, "b")
        for deed in (
            None, 0, "undo", (), ("Put", 0, "b"), ("put", 0), ("put", 0, "b", 1), ("take",), ("take", 0, "a"), ("change", 0),
            ("become",), ("undo", 1), ("redo", ()), ("put_on", "a"), ("take_off",), ("tried",), ("tried", (), ()), (0,), (None, 1),
            (("put",), 0, "b"), ("copy",), ("marks", "letter"), {"put": 0}, ("live", "a"), (["undo"],),
        ):
            for at in range(3):
                deeds = [good, ("take_off", "letter"), good, None]
                deeds[at] = deed
                with self.assertRaises(BadEntry) as held:
                    desk.tried(deeds)
                self.assertEqual(held.exception.number, at, deed)
                self.assertEqual(all_of(desk), before)

    def test_errors_of_deeds_that_are_tried(self):
        desk = Desk("ab", "ab", MARKS)
        desk.put(0, "b")
        before = all_of(desk)
        for deeds, error in (
            ((("become", ""), ("take", 0)), BadPlace), ((("become", ""), ("put", 0, "c")), BadLetter), ((("become", "c"),), BadRow),
            ((("undo",), ("undo",), ("undo",)), NoDeed), ((("redo",),), NoDeed), ((("put_on", "", LETTER),), BadName),
            ((("put_on", "even", LETTER),), Twice), ((("take_off", "other"),), Unknown), ((("tried", (("undo",), ("undo",), ("undo",))),), NoDeed),
            ((("put_on", "other", Pair.of_letters("a", "a")),), Unlike), ((("become", "a" * 200), ("put", 0, "a")), TooLong),
        ):
            with self.assertRaises(error):
                desk.tried((("put", 0, "a"),) + deeds + (("take_off", "even"),))
            self.assertEqual(all_of(desk), before)

    def test_an_inner_tuple_is_judged_when_it_is_reached(self):
        desk = Desk("ab", "ab", MARKS)
        with self.assertRaises(BadEntry) as held:
            desk.tried((("become", "b"), ("take_off", "even"), ("tried", (("undo",), ("nay",)))))
        self.assertEqual((held.exception.number, desk.live, desk.log, desk.mark_names), (1, "ab", (), ("letter", "next")))
        with self.assertRaises(BadEntry) as held:
            desk.tried((("take_off", "next"), ("tried", None)))
        self.assertEqual((held.exception.number, desk.mark_names), (-1, ("letter",)))
        with self.assertRaises(BadPlace):
            desk.tried((("take", 7), ("tried", None)))

    def test_marks_ahead_of_an_error_stay(self):
        desk = Desk("ab", "ab", MARKS)
        with self.assertRaises(BadPlace):
            desk.tried((("put_on", "all", LETTER), ("become", "b"), ("take_off", "next"), ("take", 5), ("take_off", "all")))
        self.assertEqual((desk.live, desk.log, desk.mark_names), ("ab", (), ("letter", "even", "all")))

    def test_deep_ones(self):
        desk = Desk("ab", "", ())
        deeds = (("put", 0, "a"),)
        for _ in range(8):
            deeds = (("put", 0, "b"), ("tried", deeds))
        told = desk.tried(deeds)
        self.assertEqual((told[0], told[1][1], desk.live), (((), "b"), "b", ""))
        for _ in range(7):
            told = told[1][0]
        self.assertEqual(told[1], ((((), "abbbbbbbb"),), "bbbbbbbb"))


class Copies(unittest.TestCase):
    def test_they_go_on_by_themselves(self):
        source = chance(502)
        for _ in range(20):
            desk = Desk("ab", "ab", MARKS)
            for _ in range(12):
                do_by_chance(source, desk)
            before = all_of(desk)
            other = desk.copy()
            self.assertIsInstance(other, Desk)
            self.assertEqual(all_of(other), before)
            for _ in range(12):
                do_by_chance(source, other)
            other.take_off("next")
            self.assertEqual(all_of(desk), before)
            after = all_of(other)
            desk.become("")
            desk.put_on("more", LETTER)
            self.assertEqual(all_of(other), after)

    def test_a_copy_made_in_a_trial(self):
        desk = Desk("ab", "ab", MARKS)
        with desk.trial():
            desk.become("bb")
            other = desk.copy()
            with other.trial():
                other.undo()
        self.assertEqual((desk.live, other.live, other.log), ("ab", "bb", (("become", "ab", "bb"),)))
        self.assertEqual((other.undo(), other.live), ((), "ab"))


class WhatDeedsTurn(unittest.TestCase):
    """[51]: windows bound what a deed turns."""

    def test_windows(self):
        source = chance(510)
        texts = (
            "next b", "prev (a and prev b)", "next next a or prev b", "b", "prev next b", "next (b and next (a and next b))",
            "not prev prev yes", "prev prev a and next next b",
        )
        for text in texts:
            pair = pair_of("ab", ("tense", read_tense("ab", text)))
            later, back = delay(pair), reach(pair)
            for _ in range(25):
                row = "".join(source.choices("ab", k=source.randint(1, 12)))
                desk = Desk("ab", row, (("m", pair),))
                place = source.randrange(len(row))
                for name, turned in desk.change(place, source.choice("ab")):
                    self.assertEqual(name, "m")
                    self.assertTrue(place - later <= turned <= place + back, (text, row, place))
                desk.undo()
                with desk.trial():
                    self.check(pair, row, desk.put(place, "b"), desk.live, [k + (k >= place) for k in range(len(row))])
                with desk.trial():
                    kept = [k - (k > place) if k != place else None for k in range(len(row))]
                    self.check(pair, row, desk.take(place), desk.live, kept)

    def check(self, pair, row, turned, after, kept):
        """A place whose window has stayed what it was is not turned."""
        later, back = delay(pair), reach(pair)

        def window(some, place):
            return some[max(0, place - back):place], some[place], some[place + 1:][:later]

        for k, there in enumerate(kept):
            if there is not None and window(row, k) == window(after, there):
                self.assertNotIn(("m", there), turned)


class ErrorsChangeNothing(unittest.TestCase):
    def test_all(self):
        desk = Desk("ab", "ab", MARKS)
        desk.put(0, "b")
        desk.undo()
        before = all_of(desk)
        for call in (
            lambda: desk.put(3, "a"), lambda: desk.put(0, "c"), lambda: desk.take(2), lambda: desk.change(0, ""), lambda: desk.become(None),
            desk.undo, lambda: desk.marks("other"), lambda: desk.put_on("even", LETTER), lambda: desk.take_off(None), lambda: desk.tried(0),
        ):
            with self.assertRaises(SaidError):
                call()
            self.assertEqual(all_of(desk), before)


if __name__ == "__main__":
    unittest.main()
