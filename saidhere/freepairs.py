"""Pairs of what flag readers, named sheets and cuts mark."""

from saidhere.cutsteps import CutStands
from saidhere.errors import Free
from saidhere.flagmachines import explored, least_machine_of, machine_of_reader, standings_met
from saidhere.masks import has_bit, mask_of
from saidhere.named import MARKING, marking_sheet
from saidhere.namedin import derive_named
from saidhere.pairs import least_pair
from saidhere.plainsets import kept_cuts, set_sheet
from saidhere.readers import MOST_STANDINGS, check_most
from saidhere.setsin import derive_sets


def follow_up(plain, begins):
    """The standings to which rows lead from some standings, these included, as a mask."""
    found = {standing: True for standing in begins}
    waiting = list(found)
    while waiting:
        move = plain[waiting.pop()]
        for follower in move:
            if follower not in found:
                found[follower] = True
                waiting.append(follower)
    return sum([1 << standing for standing in found])


def goals_behind(plain, live, goal):
    """The masks of live standings from which rows behind lead to the goal, and the moves of a right reader.

    Different ones part rows behind, so they are no more than standings may be.
    """
    goals = [goal & live]
    numbers = {goals[0]: 0}
    moves = []
    at = 0
    while at < len(goals):
        move = []
        for letter in range(len(plain[0])):
            found = live & mask_of([has_bit(goals[at], followers[letter]) for followers in plain])
            if found not in numbers:
                numbers[found] = len(goals)
                goals.append(found)
                check_most(len(goals), MOST_STANDINGS)
            move.append(numbers[found])
        moves.append(tuple(move))
        at += 1
    return goals, moves


def pair_of_machine(alphabet, plain, marking, accepted):
    """The least pair of the places at which a machine accepts rows.

    Plain has the moves of the other letters of a row, and marking those of the letter at the place.
    """
    ahead = standings_met(plain)
    live = follow_up(plain, [follower for standing in ahead for follower in marking[standing]])
    goals, right = goals_behind(plain, live, mask_of(accepted))
    table = [tuple([mask_of([has_bit(goal, after) for goal in goals]) for after in move]) for move in marking]
    return least_pair(alphabet, plain, right, table)


def pair_of_flagged(alphabet, machine):
    """The least pair of a machine of rows with the name x."""
    moves, accepted = machine
    return pair_of_machine(alphabet, [move[0::2] for move in moves], [move[1::2] for move in moves], accepted)


def pair_of_reader(reader):
    """The least pair of the placed rows that a reader accepts with x at the place."""
    for name in reader.names:
        if name != MARKING:
            raise Free(name)
    moves, accepted = machine_of_reader(reader)
    if reader.names == "":
        return pair_of_machine(reader.alphabet, moves, moves, accepted)
    return pair_of_flagged(reader.alphabet, (moves, accepted))


def pair_of_named(alphabet, sheet):
    """The least pair of the mark of a named sheet."""
    kept = marking_sheet(alphabet, sheet)
    return pair_of_reader(derive_named(alphabet, kept)[-1])


def pair_of_cuts(alphabet, sheet, cuts):
    """The least pair of the mark of cuts.

    Parts with one reader are asked as one.
    """
    kept = set_sheet(alphabet, sheet)
    applied = kept_cuts(alphabet, len(kept), cuts)
    readers = derive_sets(alphabet, kept)
    firsts = {}
    numbers = []
    for number, reader in enumerate(readers):
        key = (reader.moves, reader.accepted)
        if key not in firsts:
            firsts[key] = number
        numbers.append(firsts[key])
    different = sorted(set([(numbers[i], letter, numbers[j]) for i, letter, j in applied]))
    machine = explored(CutStands(alphabet, readers, different))
    return pair_of_flagged(alphabet, least_machine_of(machine, None))
