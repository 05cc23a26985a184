"""Desks: a live row with marks on it, the deeds that change it, and trials after which it is what it was.

What a deed did is kept as the log tells it: it can be turned back by that, and done again.
"""

from saidhere.errors import BadEntry, BadLetter, BadName, BadPlace, NoDeed, TooLong, TooMany, Twice, Unknown, Unlike
from saidhere.kinds import is_below, is_listing, is_name
from saidhere.pairs import Pair, marks_in
from saidhere.plain import MOST_LETTERS, check_alphabet, check_place, check_row, is_letter

MOST_MARKS = 20
# How many things each deed has behind its word.
DEEDS = {"put": 2, "take": 1, "change": 2, "become": 1, "undo": 0, "redo": 0, "put_on": 2, "take_off": 1, "tried": 1}


def kept_marks(alphabet, thing):
    """The marks of a desk, as tuples."""
    if not is_listing(thing):
        raise BadEntry(-1)
    for number, entry in enumerate(thing):
        if not is_listing(entry) or len(entry) != 2 or not is_name(entry[0]):
            raise BadEntry(number)
        if not isinstance(entry[1], Pair) or entry[1].alphabet != alphabet:
            raise BadEntry(number)
    if len(thing) > MOST_MARKS:
        raise TooMany("mark")
    names = [name for name, pair in thing]
    for number, name in enumerate(names):
        if name in names[:number]:
            raise Twice(name)
    return tuple([(name, pair) for name, pair in thing])


def check_letter(alphabet, thing):
    """Raise BadLetter unless the thing is a letter of the alphabet."""
    if not is_letter(alphabet, thing):
        raise BadLetter(thing)


def check_deeds(thing):
    """Raise BadEntry unless the thing is a tuple of told deeds."""
    if not is_listing(thing):
        raise BadEntry(-1)
    for number, deed in enumerate(thing):
        if not is_listing(deed) or len(deed) == 0 or not isinstance(deed[0], str):
            raise BadEntry(number)
        if len(deed) - 1 != DEEDS.get(deed[0]):
            raise BadEntry(number)


def row_behind(row, deed):
    """The row that a deed of the log makes of a row."""
    word = deed[0]
    if word == "put":
        return row[:deed[1]] + deed[2] + row[deed[1]:]
    if word == "take":
        return row[:deed[1]] + row[deed[1] + 1:]
    if word == "change":
        return row[:deed[1]] + deed[3] + row[deed[1] + 1:]
    return deed[2]


def turned_back(deed):
    """The deed that turns back a deed of the log."""
    word = deed[0]
    if word == "put":
        return "take", deed[1], deed[2]
    if word == "take":
        return "put", deed[1], deed[2]
    if word == "change":
        return "change", deed[1], deed[3], deed[2]
    return "become", deed[2], deed[1]


def places_kept(deed, length):
    """The places of a row of this length whose letters stay in a deed: pairs (place before, place behind)."""
    word = deed[0]
    if word == "put":
        return [(place, place + int(place >= deed[1])) for place in range(length)]
    if word == "take":
        return [(place, place - int(place > deed[1])) for place in range(length) if place != deed[1]]
    return [(place, place) for place in range(length)] if word == "change" else []


class Kept:
    """The state of a desk in a block; below it is what counts again behind the block."""

    def __init__(self, state, below):
        self.state = state
        self.below = below


class Trial:
    """What all blocks of a desk are entered by: behind a block the desk is what it was when the block was entered.

    Each block entered has one thing more on the top, and deeds change that alone: all below stays as it was.
    """

    def __init__(self, state):
        self.top = Kept(state, None)

    def __enter__(self):
        top = self.top
        self.top = Kept(top.state, top)
        return self

    def __exit__(self, kind, value, trace):
        top = self.top
        self.top = top.below


class Desk:
    """A live row, marks by their names, and deeds; a state of it is the row, the deeds done, and those undone."""

    def __init__(self, alphabet, row, marks):
        check_alphabet(alphabet)
        check_row(alphabet, row)
        self.alphabet = alphabet
        self.worn = kept_marks(alphabet, marks)
        self.trials = Trial((row, (), ()))

    def state_now(self):
        """The state that counts."""
        return self.trials.top.state

    @property
    def live(self):
        """The live row."""
        return self.state_now()[0]

    @live.setter
    def live(self, value):
        self.become(value)

    @property
    def mark_names(self):
        """The names of the marks, in the order in which they were put on."""
        return tuple([name for name, pair in self.worn])

    @property
    def log(self):
        """The deeds done and not undone."""
        return self.state_now()[1]

    def moved(self, deed, done, undone):
        """Do a deed, with these deeds done and undone from then on: what turned."""
        before = self.state_now()[0]
        row = row_behind(before, deed)
        places = places_kept(deed, len(before))
        turned = []
        for name, pair in self.worn:
            old, new = marks_in(pair, before), marks_in(pair, row)
            turned = turned + [(name, there) for here, there in places if old[here] != new[there]]
        top = self.trials.top
        top.state = (row, done, undone)
        return tuple(sorted(turned))

    def doing(self, deed):
        """Do a new deed: what turned."""
        return self.moved(deed, self.state_now()[1] + (deed,), ())

    def put(self, place, letter):
        """Put a letter in at a place."""
        row = self.state_now()[0]
        if not is_below(place, len(row) + 1):
            raise BadPlace(place)
        check_letter(self.alphabet, letter)
        if len(row) >= MOST_LETTERS:
            raise TooLong(len(row) + 1)
        return self.doing(("put", place, letter))

    def take(self, place):
        """Take the letter at a place out."""
        check_place(self.state_now()[0], place)
        return self.doing(("take", place, self.state_now()[0][place]))

    def change(self, place, letter):
        """Replace the letter at a place."""
        check_place(self.state_now()[0], place)
        check_letter(self.alphabet, letter)
        return self.doing(("change", place, self.state_now()[0][place], letter))

    def become(self, row):
        """Replace the whole row."""
        check_row(self.alphabet, row)
        return self.doing(("become", self.state_now()[0], row))

    def undo(self):
        """Undo the last deed done."""
        row, done, undone = self.state_now()
        if not done:
            raise NoDeed("undo")
        return self.moved(turned_back(done[-1]), done[:-1], undone + (done[-1],))

    def redo(self):
        """Do again what was undone last."""
        row, done, undone = self.state_now()
        if not undone:
            raise NoDeed("redo")
        return self.moved(undone[-1], done + (undone[-1],), undone[:-1])

    def pair_called(self, name):
        """The pair of the mark with a name."""
        for other, pair in self.worn:
            if isinstance(name, str) and name == other:
                return pair
        raise Unknown(name)

    def marks(self, name):
        """For each place of the live row, whether the mark of this name marks it."""
        return marks_in(self.pair_called(name), self.state_now()[0])

    def trial(self):
        """What a block is entered by behind which the desk is what it was."""
        return self.trials

    def put_on(self, name, pair):
        """Put a mark on the desk."""
        if not is_name(name):
            raise BadName(name)
        if name in self.mark_names:
            raise Twice(name)
        if len(self.worn) >= MOST_MARKS:
            raise TooMany("mark")
        if pair.alphabet != self.alphabet:
            raise Unlike("alphabet")
        self.worn = self.worn + ((name, pair),)

    def take_off(self, name):
        """Take the mark of this name off."""
        self.pair_called(name)
        self.worn = tuple([entry for entry in self.worn if entry[0] != name])

    def copy(self):
        """A desk that is as this one is, and goes on by itself."""
        other = Desk(self.alphabet, "", self.worn)
        other.trials = Trial(self.state_now())
        return other

    def told_deed(self, deed):
        """What a told deed returns when it is done."""
        word = deed[0]
        if word == "put":
            return self.put(deed[1], deed[2])
        if word == "take":
            return self.take(deed[1])
        if word == "change":
            return self.change(deed[1], deed[2])
        if word == "become":
            return self.become(deed[1])
        if word == "undo":
            return self.undo()
        if word == "redo":
            return self.redo()
        if word == "tried":
            return self.tried(deed[1])
        if word == "put_on":
            self.put_on(deed[1], deed[2])
        else:
            self.take_off(deed[1])
        return ()

    def tried(self, deeds):
        """Do some told deeds in a trial: for each what it returns, and the live row behind it."""
        check_deeds(deeds)
        kept = list(deeds)
        told = []
        with self.trial():
            for deed in kept:
                found = self.told_deed(deed)
                told.append((found, self.state_now()[0]))
        return tuple(told)
