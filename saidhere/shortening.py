"""Parts with one meaning are put together, so that sheets that are made become short.

The meaning of a part is the least machine of what it tells; where that would be too large, a part stands for
itself alone. A part that denies another one is told by it.
"""

from saidhere.errors import TooMany
from saidhere.flagmachines import explored, least_machine_of
from saidhere.flags import MOST_MOVES
from saidhere.flagsteps import part_machine
from saidhere.sheets import needed, referred, renumbered

START = 2
DENIED = {0: 1, 1: 0, 2: 2}
LARGEST = 20000
NEAR = ("prev", "next")
FAR = ("since", "until")


class PastStands:
    """Stands of a tense part, all of whose parts look in one direction, as rows up to a place lead to them.

    A stand has the standings of the machines of the parts it refers to, and for `prev` and `since` (`next`
    and `until` in mirrored rows) whether it holds at the place. What denies a part needs no stands.
    """

    def __init__(self, letters, word, machines):
        self.width = letters
        self.word = word
        self.moves = [machine[0] for machine in machines]
        self.colours = [machine[1] for machine in machines]
        self.begin = tuple([0 for _ in machines]) + (False,)

    def held(self, stand):
        """For each part it refers to, whether that holds; at no place at all none does."""
        return [colours[standing] == 1 for colours, standing in zip(self.colours, stand)]

    def followed(self, stand, number):
        """The stand to which a letter leads."""
        held = self.held(stand)
        holds = False
        if self.word in NEAR:
            holds = held[0]
        elif self.word in FAR:
            holds = held[1] or (held[0] and stand[2])
        return tuple([moves[standing][number] for moves, standing in zip(self.moves, stand)]) + (holds,)

    def accepts(self, stand):
        """Whether the part holds at the last place of the rows that lead there."""
        if self.word in NEAR or self.word in FAR:
            return stand[-1]
        held = self.held(stand)
        return held[0] and held[1] if self.word == "and" else held[0] or held[1]


def single_past(alphabet, part):
    """The machine of a tense part that refers to none."""
    if part[0] == "letter":
        move = tuple([2 if letter == part[1] else 1 for letter in alphabet])
        return least_machine_of(([move, move, move], [START, 0, 1]), None)
    move = tuple([1 for _ in alphabet])
    return [move, move], [START, 1 if part[0] == "yes" else 0]


class PastMeanings:
    """The meanings of tense parts that look in one direction: machines that tell a colour for each row.

    It is 1 if the part holds at the last place, and 0 if not; the empty row, which no row leads back to, has
    a colour of its own. A largest number of stands that may have to be looked at for a part can be told.
    """

    def __init__(self, alphabet, largest):
        self.alphabet = alphabet
        self.largest = largest

    def is_too_large(self, machines):
        """Whether what is made of some machines may be too large."""
        size = 1
        for machine in machines:
            size = size * len(machine[0])
        return self.largest is not None and size > self.largest

    def meaning(self, part, machines):
        """The machine of a part, from those of the parts it refers to; None if it may be too large."""
        if not machines:
            return single_past(self.alphabet, part)
        if self.is_too_large(machines):
            return None
        moves, accepted = explored(PastStands(len(self.alphabet), part[0], machines))
        return least_machine_of((moves, [START] + [int(good) for good in accepted[1:]]), None)


class SetMeanings:
    """The meanings of set parts: machines that tell whether a row is in the set."""

    def __init__(self, alphabet):
        self.alphabet = alphabet

    def meaning(self, part, machines):
        """The machine of a part, from those of the parts it refers to; None if it is too large."""
        sides = [("", (moves, [colour == 1 for colour in colours])) for moves, colours in machines]
        try:
            moves, accepted = least_machine_of(part_machine(self.alphabet, "", part, sides), MOST_MOVES)
        except TooMany:
            return None
        return moves, [int(good) for good in accepted]


def only_needed(parts, wanted):
    """The parts wanted and those that they need alone, and the numbers of those wanted."""
    numbers = {}
    kept = []
    for number in needed(parts, wanted):
        numbers[number] = len(kept)
        kept.append(renumbered(parts[number], numbers))
    return kept, [numbers[number] for number in wanted]


def denied_machine(machine):
    """The machine of what denies a part with this machine."""
    return machine[0], tuple([DENIED[colour] for colour in machine[1]])


def plainer(part):
    """The part in the plainest of the forms that say the same by themselves."""
    if part[0] in FAR and part[1] == part[2]:
        return NEAR[FAR.index(part[0])], part[1]
    if part[0] in ("and", "or"):
        return part[0], min(part[1:]), max(part[1:])
    return part


class Together:
    """Parts that are put together: those kept, their machines, and the numbers by their meanings and their forms."""

    def __init__(self, meanings):
        self.meanings = meanings
        self.kept = []
        self.machines = []
        self.listed_at = {}
        self.forms = {}

    def number_of(self, part):
        """The number of a part that refers to those kept."""
        form = plainer(part)
        if form not in self.forms:
            self.forms[form] = self.number_of_meaning(form)
        return self.forms[form]

    def meaning_of(self, part, ahead):
        """The machine of a part, from those of the parts it refers to."""
        return denied_machine(ahead[0]) if part[0] == "not" else self.meanings.meaning(part, ahead)

    def number_of_meaning(self, part):
        """The number of a part whose form is new."""
        ahead = [self.machines[other] for other in referred(part)]
        unknown = any([machine is None for machine in ahead])
        machine = None if unknown else self.meaning_of(part, ahead)
        key = part if machine is None else (tuple(machine[0]), tuple(machine[1]))
        if key not in self.listed_at:
            denied = None if machine is None else self.listed_at.get(denied_machine(key))
            self.listed_at[key] = len(self.kept)
            self.kept.append(part if denied is None else ("not", denied))
            self.machines.append(machine)
        return self.listed_at[key]


def put_together(parts, wanted, meanings):
    """The parts wanted and those that they need, each meaning once, with their meanings, and their numbers there."""
    together = Together(meanings)
    numbers = {}
    for number in needed(parts, wanted):
        numbers[number] = together.number_of(renumbered(parts[number], numbers))
    return together.kept, together.machines, numbers


def shortened(parts, wanted, meanings):
    """The parts wanted and those that they need, each meaning once, and the numbers of those wanted."""
    kept, _, numbers = put_together(parts, wanted, meanings)
    return only_needed(kept, [numbers[number] for number in wanted])
