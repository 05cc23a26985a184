"""Parts of a tense sheet that have one mark, and parts that do not matter to its mark."""

from saidhere.machines import firsts_of
from saidhere.sheets import referred, renumbered, tidied
from saidhere.tense import tense_sheet
from saidhere.tensein import Derivation


def merged(alphabet, sheet):
    """The tidy sheet in which each mark has one part alone: the first one that has it."""
    kept = tense_sheet(alphabet, sheet)
    derivation = Derivation(alphabet)
    numbers = derivation.numbers_of(kept)
    leasts = firsts_of(numbers)
    firsts = [leasts[number] for number in numbers]
    return tidied([renumbered(part, firsts) for part in kept], firsts[-1])


def last_uses(kept):
    """For each part, the last part that refers to it; its own number if none does."""
    found = list(range(len(kept)))
    for number, part in enumerate(kept):
        for other in referred(part):
            found[other] = number
    return found


class Replacing:
    """The mark that a sheet comes to have if one of its parts gets another one; marks are told by their numbers.

    If a part is all that has changed among what later parts refer to, what the sheet comes to have hangs on this
    part and its mark alone: that is told once for each mark of it.
    """

    def __init__(self, alphabet, kept):
        self.kept = kept
        self.derivation = Derivation(alphabet)
        self.numbers = self.derivation.numbers_of(kept)
        self.uses = last_uses(kept)
        self.lasts = {}

    def told_anew(self, at, changed):
        """The number of the mark of a part, if parts that it refers to have changed; None if none has."""
        part = self.kept[at]
        if not any([other in changed for other in referred(part)]):
            return None
        told = {other: changed.get(other, self.numbers[other]) for other in referred(part)}
        return self.derivation.number_of_step(renumbered(part, told))

    def last_with(self, at, number):
        """The number of the mark of the sheet if the part has the mark with this number."""
        changed = {}
        single = []
        furthest = at
        last = None
        while last is None and at <= furthest:
            if number is not None and number != self.numbers[at]:
                if furthest == at:
                    changed = {}
                    single.append((at, number))
                    last = self.lasts.get((at, number))
                changed[at] = number
                furthest = max(furthest, self.uses[at])
            at += 1
            if last is None and at <= furthest:
                number = self.told_anew(at, changed)
        if last is None:
            last = changed.get(len(self.kept) - 1, self.numbers[-1])
        for key in single:
            self.lasts[key] = last
        return last

    def is_idle(self, at):
        """Whether the mark of the sheet stays if a part is replaced by `yes`, and if it is by `no`."""
        steps = [self.derivation.number_of_step((word,)) for word in ("yes", "no")]
        lasts = [self.last_with(at, step) for step in steps]
        return lasts == [self.numbers[-1], self.numbers[-1]]


def idle(alphabet, sheet):
    """The numbers of the parts that may be replaced by `yes` and by `no` without changing the mark."""
    kept = tense_sheet(alphabet, sheet)
    replacing = Replacing(alphabet, kept)
    return tuple([at for at in range(len(kept)) if replacing.is_idle(at)])
