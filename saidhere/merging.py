"""Parts of a tense sheet that have one mark, and parts that do not matter to its mark."""

from saidhere.machines import firsts_of
from saidhere.sheets import referred, renumbered, tidied
from saidhere.tense import tense_sheet
from saidhere.tensein import Derivation


def merged(alphabet, sheet):
    """The tidy sheet in which each mark has one part alone: the first one that has it."""
    kept = tense_sheet(alphabet, sheet)
    derivation = Derivation(alphabet)
    numbers = derivation.numbers_of(kept)
    leasts = firsts_of(numbers)
    firsts = [leasts[number] for number in numbers]
    return tidied([renumbered(part, firsts) for part in kept], firsts[-1])


def references(kept):
    """For each part, the later parts that refer to it, ascending."""
    found = [[] for _ in kept]
    for number, part in enumerate(kept):
        for other in sorted(set(referred(part))):
            found[other].append(number)
    return found


def last_with(derivation, kept, numbers, waiting, at, part):
    """The number of the mark of the sheet if a part of it is replaced.

    Numbers has those of the sheet as it is: only what refers to parts whose mark changes is told anew.
    Waiting has the later parts that refer to each part.
    """
    changed = {at: derivation.number_of_step(part)}
    touched = {after: True for after in waiting[at]} if changed[at] != numbers[at] else {}
    for number in range(at + 1, len(kept)):
        if number in touched:
            told = {other: changed.get(other, numbers[other]) for other in referred(kept[number])}
            changed[number] = derivation.number_of_step(renumbered(kept[number], told))
            if changed[number] != numbers[number]:
                for after in waiting[number]:
                    touched[after] = True
    return changed.get(len(kept) - 1, numbers[-1])


def idle(alphabet, sheet):
    """The numbers of the parts that may be replaced by `yes` and by `no` without changing the mark."""
    kept = tense_sheet(alphabet, sheet)
    derivation = Derivation(alphabet)
    numbers = derivation.numbers_of(kept)
    waiting = references(kept)
    found = []
    for at in range(len(kept)):
        with_yes = last_with(derivation, kept, numbers, waiting, at, ("yes",))
        with_no = last_with(derivation, kept, numbers, waiting, at, ("no",))
        if with_yes == numbers[-1] and with_no == numbers[-1]:
            found.append(at)
    return tuple(found)
