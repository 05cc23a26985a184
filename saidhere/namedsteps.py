"""Machines of the parts of named sheets that bind a name."""

from saidhere.flagmachines import Joined, explored, least_machine_of, narrowed
from saidhere.flags import MOST_MOVES
from saidhere.subsets import Subsets


def ways_of_name(alphabet, names, inner, name, machine):
    """What a machine does with a flagged row that bears a name besides, wherever it stands.

    Inner has the names of the machine. The standings are those of the machine as long as the name did not
    come, and once more behind it.
    """
    moves, accepted = machine
    many = len(moves)
    plain = narrowed(alphabet, names, inner, "")
    borne = narrowed(alphabet, names, inner, name)
    twos = list(zip(plain, borne))
    ahead = [[(1 << move[one]) | (1 << (many + move[other])) for one, other in twos] for move in moves]
    behind = [[1 << (many + move[one]) for one in plain] for move in moves]
    return ahead + behind, sum([1 << (many + at) for at, good in enumerate(accepted) if good])


def some_machine(alphabet, names, inner, name, machine, most):
    """The machine of the flagged rows that a machine accepts with the name besides at at least one place."""
    steps, goal = ways_of_name(alphabet, names, inner, name, machine)
    return explored(Subsets(steps, 1, goal, most))


def denied(alphabet, names, machine):
    """The machine of the proper flagged rows that a machine does not accept."""
    return explored(Joined(alphabet, names, "not", [(names, machine)]))


def all_machine(alphabet, names, inner, name, machine):
    """The machine of the proper flagged rows that a machine accepts with the name besides at every place.

    There is no place at which it does not. What is denied may need a standing more for each set of names
    that stand in a row so far, and one for the rows that can't become proper.
    """
    most = MOST_MOVES + (1 << len(names)) + 1
    wrong = least_machine_of(denied(alphabet, inner, machine), None)
    somewhere = some_machine(alphabet, names, inner, name, wrong, most)
    return denied(alphabet, names, somewhere)
