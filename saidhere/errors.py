"""The errors of the program. All stand under SaidError, and bear as attributes what they are made with."""


class SaidError(ValueError):
    """Something for which the document names an error."""


class WrongThing(SaidError):
    """A thing is not what is wanted; it is borne as it was passed."""

    def __init__(self, thing):
        self.thing = thing


class WrongItem(SaidError):
    """The first item of several that is wrong, by its number; -1 for the whole of them."""

    def __init__(self, number):
        self.number = number


class BadAlphabet(WrongThing):
    """The thing is no alphabet."""


class BadPlace(WrongThing):
    """The thing is no place of the row."""


class BadPlaces(WrongThing):
    """The thing does not tell the places that are wanted."""


class BadSaying(WrongThing):
    """The thing is no saying."""


class BadNames(WrongThing):
    """The thing is no string of names."""


class BadLetters(WrongThing):
    """The thing is no string of different letters of the alphabet."""


class BadLetter(WrongThing):
    """The thing is no letter of the alphabet."""


class BadSide(WrongThing):
    """The thing is no side."""


class BadKind(WrongThing):
    """The thing is no kind of saying."""


class BadNumber(WrongThing):
    """The thing is no number that may stand here."""


class BadGlass(WrongThing):
    """The thing is no glass."""


class BadName(WrongThing):
    """The thing is no name."""


class BadSheet(WrongItem):
    """This part of a sheet does not have a form told."""


class BadCut(WrongItem):
    """This cut does not have the form told."""


class BadMarked(WrongItem):
    """This triple does not have the form told, or is not greater than the one ahead of it."""


class BadMove(WrongItem):
    """This move of a flag reader does not have the form told."""


class BadAccepted(WrongItem):
    """This one of the accepted is no standing, or not greater than the one ahead of it."""


class BadEntry(WrongItem):
    """This entry, mark or deed does not have the form told."""


class BadTold(WrongItem):
    """This item that a layer tells does not have the form told."""


class BadPairs(WrongItem):
    """This thing is no pair over the alphabet."""


class BadSheets(WrongItem):
    """This thing is no sheet over the alphabet."""


class BadFilling(WrongItem):
    """This number fills no mark of a rule."""


class BadRow(SaidError):
    """The thing stops being a row at this index; -1 for the whole of it."""

    def __init__(self, at):
        self.at = at


class BadText(SaidError):
    """The text stops being the beginning of a good one at this index; -1 for the whole of it."""

    def __init__(self, at):
        self.at = at


class BadLine(SaidError):
    """This word of this line cannot stand where it stands."""

    def __init__(self, line, word):
        self.line = line
        self.word = word


class BadReader(SaidError):
    """This move of the reader of this side does not have the form told."""

    def __init__(self, side, number):
        self.side = side
        self.number = number


class BadRuleSheet(SaidError):
    """This part of the first or second sheet of a rule does not have a form told."""

    def __init__(self, which, number):
        self.which = which
        self.number = number


class Free(SaidError):
    """This name is free where it must not be."""

    def __init__(self, name):
        self.name = name


class Twice(SaidError):
    """This name stands twice."""

    def __init__(self, name):
        self.name = name


class Unknown(SaidError):
    """Nothing has this name."""

    def __init__(self, name):
        self.name = name


class TooMany(SaidError):
    """There are more things of this kind than may be."""

    def __init__(self, word):
        self.word = word


class TooLong(SaidError):
    """Something is too long, having this number of letters."""

    def __init__(self, number):
        self.number = number


class Beyond(SaidError):
    """There are only so many."""

    def __init__(self, number):
        self.number = number


class Unlike(SaidError):
    """Two things differ in this, in which they must not."""

    def __init__(self, word):
        self.word = word


class NoDeed(SaidError):
    """There is no deed to undo, or to do again."""

    def __init__(self, word):
        self.word = word


class Unsayable(SaidError):
    """The mark is not steady: on this side the turn leads this standing back in so many times."""

    def __init__(self, side, standing, turn, count):
        self.side = side
        self.standing = standing
        self.turn = turn
        self.count = count


class Unlawful(SaidError):
    """This place of this row is marked by none, or by more than one, of the marks."""

    def __init__(self, row, place):
        self.row = row
        self.place = place


class Blurred(SaidError):
    """A layer leads these two rows to one row."""

    def __init__(self, row, other):
        self.row = row
        self.other = other


class Ended(SaidError):
    """The row has ended already."""


class NoMatch(SaidError):
    """The part of a sheet is not of the form that a rule tells."""
