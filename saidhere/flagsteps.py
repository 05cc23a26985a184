"""The steps of derivations by flag readers: of named sheets, and of set sheets, which have no names."""

from saidhere.errors import TooMany
from saidhere.flagmachines import Joined, Single, explored, least_reader, machine_of_reader, reader_of
from saidhere.flags import MOST_MOVES, Reader
from saidhere.kinds import is_listing
from saidhere.named import BINDING
from saidhere.namedsteps import all_machine, some_machine
from saidhere.setsteps import short_machine, then_machine
from saidhere.sheets import referred, renumbered


def single_machine(alphabet, names, part):
    """The machine of a part that refers to none."""
    if part[0] in ("none", "empty") or (part[0] == "letter" and len(part) == 2):
        return short_machine(alphabet, part)
    return explored(Single(alphabet, names, part))


def part_machine(alphabet, names, part, sides):
    """The machine of a part with these free names.

    The sides are the names and the machines of the parts that it refers to.
    """
    if not sides:
        return single_machine(alphabet, names, part)
    inner, machine = sides[0]
    if part[0] == "then":
        return then_machine(machine, sides[1][1])
    if part[0] in BINDING and part[1] in inner:
        if part[0] == "all":
            return all_machine(alphabet, names, inner, part[1], machine)
        return some_machine(alphabet, names, inner, part[1], machine, MOST_MOVES)
    return explored(Joined(alphabet, names, part[0], sides))


class FlagSteps:
    """Steps that are right: the different readers are numbered, and what is made of them is made once."""

    def __init__(self, alphabet):
        self.alphabet = alphabet
        self.readers = []
        self.listed_at = {}
        self.met = {}
        self.steps = {}

    def number_of(self, reader):
        """The number of a least reader."""
        key = (reader.names, reader.moves, reader.accepted)
        if key not in self.listed_at:
            self.listed_at[key] = len(self.readers)
            self.readers.append(reader)
        return self.listed_at[key]

    def number_of_any(self, reader):
        """The number of the least reader that accepts what a reader accepts."""
        key = (reader.names, reader.moves, reader.accepted)
        if key not in self.met:
            self.met[key] = self.number_of(least_reader(reader))
        return self.met[key]

    def step(self, names, part, numbers):
        """The number of the reader of a part, from those of the parts ahead."""
        key = renumbered(part, numbers)
        if key not in self.steps:
            ahead = [self.readers[numbers[number]] for number in referred(part)]
            sides = [(reader.names, machine_of_reader(reader)) for reader in ahead]
            machine = part_machine(self.alphabet, names, part, sides)
            self.steps[key] = self.number_of(reader_of(self.alphabet, names, machine))
        return self.steps[key]

    def is_right(self, names, part, numbers, thing):
        """Whether a thing is right as the step of a part, those ahead being right."""
        if not isinstance(thing, Reader) or thing.alphabet != self.alphabet or thing.names != names:
            return False
        try:
            wanted = self.step(names, part, numbers)
        except TooMany:
            # No reader has as many standings as would be needed.
            return False
        return self.number_of_any(thing) == wanted


def derivation(alphabet, kept, names):
    """The least reader of each part of a kept sheet, whose parts have these free names."""
    steps = FlagSteps(alphabet)
    numbers = []
    for part, free in zip(kept, names):
        numbers.append(steps.step(free, part, numbers))
    return tuple([steps.readers[number] for number in numbers])


def first_wrong_step(alphabet, kept, names, readers):
    """The number of the first step that is not right; -1 if the readers are not as many as the parts."""
    if not is_listing(readers) or len(readers) != len(kept):
        return -1
    steps = FlagSteps(alphabet)
    numbers = []
    for part, free, thing in zip(kept, names, readers):
        if not steps.is_right(free, part, numbers, thing):
            return len(numbers)
        numbers.append(steps.step(free, part, numbers))
    return len(kept)
