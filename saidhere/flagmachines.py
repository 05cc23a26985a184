"""Machines of flagged rows: moves, and for each standing whether it is accepted; of any size.

They are made by going through stands: what a flagged row has led some readers to, with the names that
stand in it so far, told as a mask. A row that has a name twice can't become proper: its stand is DEAD.
"""

from saidhere.flags import MOST_MOVES, Reader, flagged, flagged_letters
from saidhere.machines import class_moves, firsts_of, refined
from saidhere.masks import has_bit

DEAD = (-1,)


def borne_names(names, number):
    """The names that the flagged letter with this number bears."""
    return [name for at, name in enumerate(names) if has_bit(number, at)]


def narrowed(alphabet, names, inner, added):
    """For each flagged letter, its number for a reader with the inner names alone, bearing the added ones, too."""
    told = []
    for number in range(flagged_letters(alphabet, names)):
        borne = borne_names(names, number) + list(added)
        told.append(flagged(inner, number >> len(names), borne))
    return told


def seen_after(names, seen, number):
    """The mask of the names in a row, with a flagged letter more; -1 if one of them stands in it twice."""
    bits = number & ((1 << len(names)) - 1)
    return -1 if seen & bits else seen | bits


def single_seen(alphabet, names, part, seen, number):
    """What seen_after tells; -1 also if a part that refers to none can't come true any more."""
    borne = borne_names(names, number)
    word = part[0]
    if word == "letter" and part[2] in borne and alphabet[number >> len(names)] != part[1]:
        return -1
    if word == "same" and (part[1] in borne) != (part[2] in borne):
        return -1
    if word == "less" and part[2] in borne and not has_bit(seen, names.find(part[1])):
        return -1
    return -1 if word == "no" else seen_after(names, seen, number)


class Single:
    """Stands of a part that refers to none: the names seen so far, -1 if it can't come true any more."""

    def __init__(self, alphabet, names, part):
        self.alphabet = alphabet
        self.names = names
        self.part = part
        self.width = flagged_letters(alphabet, names)
        self.begin = -1 if part[0] == "no" else 0

    def followed(self, stand, number):
        """The stand to which a flagged letter leads."""
        return -1 if stand == -1 else single_seen(self.alphabet, self.names, self.part, stand, number)

    def accepts(self, stand):
        """Whether the part holds for the flagged rows that lead there."""
        return stand == (1 << len(self.names)) - 1


class Joined:
    """Stands of a part that asks other machines about a row with their own names alone.

    A stand has the names seen so far, whether there was a letter, and a standing of each machine. Each of
    the machines is told with its names.
    """

    def __init__(self, alphabet, names, word, sides):
        self.names = names
        self.word = word
        self.width = flagged_letters(alphabet, names)
        self.moves = [machine[0] for inner, machine in sides]
        self.accepted = [machine[1] for inner, machine in sides]
        self.numbers = [narrowed(alphabet, names, inner, "") for inner, machine in sides]
        self.begin = (0, False) + tuple([0 for _ in sides])

    def followed(self, stand, number):
        """The stand to which a flagged letter leads."""
        seen = -1 if stand == DEAD else seen_after(self.names, stand[0], number)
        if seen == -1:
            return DEAD
        steps = list(zip(self.moves, self.numbers, stand[2:]))
        return (seen, True) + tuple([moves[standing][told[number]] for moves, told, standing in steps])

    def accepts(self, stand):
        """Whether the part holds for the flagged rows that lead there."""
        if stand[0] != (1 << len(self.names)) - 1:
            return False
        held = [accepted[standing] for accepted, standing in zip(self.accepted, stand[2:])]
        if self.word == "not":
            return not held[0]
        if self.word == "and":
            return held[0] and held[1]
        if self.word == "or":
            return held[0] or held[1]
        return held[0] and stand[1] if self.word == "some" else held[0] or not stand[1]


def explored(kind):
    """The machine of all stands of a kind to which flagged rows lead."""
    stands = [kind.begin]
    numbers = {kind.begin: 0}
    moves = []
    at = 0
    while at < len(stands):
        move = []
        for number in range(kind.width):
            follower = kind.followed(stands[at], number)
            if follower not in numbers:
                numbers[follower] = len(stands)
                stands.append(follower)
            move.append(numbers[follower])
        moves.append(tuple(move))
        at += 1
    return moves, [kind.accepts(stand) for stand in stands]


def standings_met(moves):
    """The standings to which rows lead, in the order of the least flagged rows."""
    found = [0]
    met = {0: True}
    at = 0
    while at < len(found):
        move = moves[found[at]]
        for follower in move:
            if follower not in met:
                met[follower] = True
                found.append(follower)
        at += 1
    return found


def least_machine_of(machine, most):
    """The least machine with the same flagged rows, its standings in the order of their least flagged rows."""
    moves, accepted = machine
    met = standings_met(moves)
    numbers = {standing: at for at, standing in enumerate(met)}
    onward = [tuple([numbers[follower] for follower in moves[standing]]) for standing in met]
    classes = refined(onward, [accepted[standing] for standing in met], most)
    firsts = firsts_of(classes)
    return class_moves(onward, classes, firsts), [accepted[met[first]] for first in firsts]


def reader_of(alphabet, names, machine):
    """The least flag reader of a machine."""
    moves, accepted = least_machine_of(machine, MOST_MOVES)
    return Reader(alphabet, names, moves, [standing for standing, good in enumerate(accepted) if good])


def machine_of_reader(reader):
    """A flag reader as a machine."""
    standings = range(len(reader.moves))
    return reader.moves, [standing in reader.accepted for standing in standings]


def least_reader(reader):
    """The least flag reader of the flagged rows of a reader."""
    return reader_of(reader.alphabet, reader.names, machine_of_reader(reader))
