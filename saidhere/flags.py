"""Flag readers: sets of rows whose places bear names, told by one reader from the first letter on."""

from saidhere.errors import BadAccepted, BadMove, BadNames, BadPlaces
from saidhere.kinds import is_below, is_listing
from saidhere.named import MOST_NAMES
from saidhere.plain import check_alphabet, check_row, is_letter
from saidhere.readers import is_move
from saidhere.sheets import NAMES

MOST_MOVES = 60


def is_names(thing):
    """Whether the thing is a string of at most 4 different names, ascending."""
    if not isinstance(thing, str) or len(thing) > MOST_NAMES:
        return False
    known = all([is_letter(NAMES, name) for name in thing])
    return known and all([one < other for one, other in zip(thing, thing[1:])])


def flagged_letters(alphabet, names):
    """How many flagged letters there are."""
    return len(alphabet) << len(names)


def flagged(names, letter, borne):
    """The number of the flagged letter that has the letter with this number and bears some of the names."""
    return (letter << len(names)) + sum([1 << at for at, name in enumerate(names) if name in borne])


def kept_moves(letters, thing):
    """The moves for so many flagged letters, as tuples."""
    if not is_listing(thing) or not 1 <= len(thing) <= MOST_MOVES:
        raise BadMove(-1)
    for number, move in enumerate(thing):
        if not is_move(move, letters, len(thing)):
            raise BadMove(number)
    return tuple([tuple(move) for move in thing])


def kept_accepted(standings, thing):
    """The accepted ones of so many standings, as a tuple."""
    if not is_listing(thing):
        raise BadAccepted(-1)
    for number, standing in enumerate(thing):
        if not is_below(standing, standings) or (number > 0 and standing <= thing[number - 1]):
            raise BadAccepted(number)
    return tuple(thing)


def check_places(names, row, thing):
    """Raise BadPlaces unless the thing has a place of the row for each name."""
    if not is_listing(thing) or len(thing) != len(names):
        raise BadPlaces(thing)
    if not all([is_below(place, len(row)) for place in thing]):
        raise BadPlaces(thing)


class Reader:
    """A set of flagged rows: those that lead from the standing 0 to an accepted one."""

    def __init__(self, alphabet, names, moves, accepted):
        check_alphabet(alphabet)
        if not is_names(names):
            raise BadNames(names)
        self.alphabet = alphabet
        self.names = names
        self.moves = kept_moves(flagged_letters(alphabet, names), moves)
        self.accepted = kept_accepted(len(self.moves), accepted)

    def __call__(self, row, places=()):
        check_row(self.alphabet, row)
        check_places(self.names, row, places)
        standing = 0
        for at, letter in enumerate(row):
            borne = [name for name, place in zip(self.names, places) if place == at]
            standing = self.moves[standing][flagged(self.names, self.alphabet.find(letter), borne)]
        return standing in self.accepted

    def __eq__(self, other):
        return (
            isinstance(other, Reader)
            and self.alphabet == other.alphabet
            and self.names == other.names
            and self.moves == other.moves
            and self.accepted == other.accepted
        )

    def __len__(self):
        return len(self.moves)
