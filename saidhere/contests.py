"""Contests: to what heights the places of two rows are alike, and sheets that part those that are not."""

from saidhere.alike import kept_table
from saidhere.errors import TooLong
from saidhere.formulas import Formulas
from saidhere.kinds import is_listing
from saidhere.plain import check_alphabet, check_place, check_row
from saidhere.sheets import tidied

MOST_CONTEST = 12


def check_rows(alphabet, row, other):
    """Raise an error unless both are rows of at most 12 letters."""
    check_alphabet(alphabet)
    check_row(alphabet, row)
    check_row(alphabet, other)
    for one in (row, other):
        if len(one) > MOST_CONTEST:
            raise TooLong(len(one))


def on_side(place, length, later):
    """The places behind a place, or those ahead of it, the nearest one first."""
    return list(range(place + 1, length)) if later else list(range(place - 1, -1, -1))


def strays(level, passed, others):
    """The other row's places passed that are in the level with none of those passed in this row.

    Level has pairs of a place of this row and one of the other row.
    """
    return [there for there in others if not any([(here, there) in level for here in passed])]


def is_answered(level, places, others, at):
    """Whether the move to the place with this index in places has an answer among the others."""
    for index, there in enumerate(others):
        if (places[at], there) in level and not strays(level, places[:at], others[:index]):
            return True
    return False


def is_matched(level, places, others):
    """Whether each move to one of the places has an answer among the others."""
    return all([is_answered(level, places, others, at) for at in range(len(places))])


def is_alike(level, swapped, lengths, item):
    """Whether two places are alike to the height next to that of a level; swapped has its pairs turned around."""
    for later in (True, False):
        places = on_side(item[0], lengths[0], later)
        others = on_side(item[1], lengths[1], later)
        if not is_matched(level, places, others) or not is_matched(swapped, others, places):
            return False
    return True


def turned_around(level):
    """The pairs of a level, the place of the other row first."""
    return {(m, k): True for k, m in level}


def level_after(level, lengths):
    """The level next to a level."""
    known = {item: True for item in level}
    swapped = turned_around(level)
    return [item for item in level if is_alike(known, swapped, lengths, item)]


class Contest:
    """Two rows, with the levels to which their places are alike."""

    def __init__(self, alphabet, row, other):
        check_rows(alphabet, row, other)
        self.alphabet = alphabet
        self.row = row
        self.other = other
        lengths = (len(row), len(other))
        level = [(k, m) for k in range(len(row)) for m in range(len(other)) if row[k] == other[m]]
        levels = [tuple(level)]
        newer = level_after(level, lengths)
        while len(newer) < len(levels[-1]):
            levels.append(tuple(newer))
            newer = level_after(newer, lengths)
        self.levels = tuple(levels)

    def parting_height(self, k, m):
        """The least height to which two places are not alike; None if they are to all."""
        check_place(self.row, k)
        check_place(self.other, m)
        return first_without(self.levels, (k, m))

    def parting_sheet(self, k, m):
        """A tense sheet of the parting height that holds at the one place and not at the other one."""
        if self.parting_height(k, m) is None:
            return None
        parting = Parting(self.row, self.other, self.levels)
        number = parting.parted(k, m)
        return tidied(parting.formulas.parts, number)


def first_without(levels, item):
    """The number of the first level without an item; None if all have it."""
    for height, level in enumerate(levels):
        if item not in level:
            return height
    return None


class Parting:
    """Formulas that hold at a place of a row and not at a place of another one."""

    def __init__(self, row, other, levels):
        self.row = row
        self.other = other
        self.levels = levels
        self.formulas = Formulas(("no",), ("yes",))
        self.made_at = {}

    def parted(self, k, m):
        """The number of a formula of the parting height that holds at k in the row, and not at m in the other."""
        if (k, m) not in self.made_at:
            height = first_without(self.levels, (k, m))
            if height == 0:
                self.made_at[(k, m)] = self.formulas.made(("letter", self.row[k]))
            else:
                self.made_at[(k, m)] = self.parted_by_move(k, m, self.levels[height - 1])
        return self.made_at[(k, m)]

    def parted_back(self, m, k):
        """The number of a formula that holds at m in the other row, and not at k in the row."""
        return self.formulas.negated(self.parted(k, m))

    def parted_by_move(self, k, m, level):
        """The same for places with one letter, by a move that has no answer in the level."""
        for later in (True, False):
            places = on_side(k, len(self.row), later)
            others = on_side(m, len(self.other), later)
            for at in range(len(places)):
                if not is_answered(level, places, others, at):
                    return self.parted_far(later, level, places[:at + 1], others)
            swapped = turned_around(level)
            for at, there in enumerate(others):
                if not is_answered(swapped, others, places, at):
                    # All moves in the row have answers, so the nearest place in the level with this one, if there
                    # were any, would be an answer: the places on the way to it have answers on the way here.
                    goals = [self.parted_back(there, here) for here in places]
                    return self.formulas.negated(self.made_far(later, [], goals))
        return None

    def parted_far(self, later, level, passed, others):
        """That the last one of the places passed comes, and what comes until there: the others do not have that."""
        goals = [self.parted(passed[-1], there) for there in others if (passed[-1], there) not in level]
        told = []
        for stray in needed_strays(level, passed, others):
            told.append(self.formulas.any_of([self.parted(here, stray) for here in passed[:-1]]))
        return self.made_far(later, told, goals)

    def made_far(self, later, told, goals):
        """The formula that all of the goals hold somewhere, and all that is told at the places between."""
        way = self.formulas.all_of(told)
        aim = self.formulas.all_of(goals)
        return self.formulas.made(("until" if later else "since", way, aim))


def needed_strays(level, passed, others):
    """Places of the other row, one of which is passed on each way to an answer in the level, and matches none of
    the places passed ahead of the last one.
    """
    found = {}
    for index, there in enumerate(others):
        if (passed[-1], there) in level:
            between = strays(level, passed[:-1], others[:index])
            if not any([stray in found for stray in between]):
                found[between[0]] = True
    return list(found)


def kept_level(row, other, thing):
    """The different items of a level, with one letter each; None if it is none."""
    items = kept_table(row, other, thing)
    if items is None or not all([row[k] == other[m] for k, m in items]):
        return None
    return {item: True for item in items}


def judge_levels(alphabet, row, other, levels):
    """Whether some levels are right for two rows."""
    check_rows(alphabet, row, other)
    if not is_listing(levels):
        return False
    kept = [kept_level(row, other, level) for level in levels]
    if not all([level is not None for level in kept]):
        return False
    lengths = (len(row), len(other))
    for ahead, level in zip(kept, kept[1:]):
        swapped = turned_around(ahead)
        if not all([is_alike(ahead, swapped, lengths, item) for item in level]):
            return False
    return True
