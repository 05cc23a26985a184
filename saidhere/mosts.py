"""How often a claim can mark in one row that is let."""

from saidhere.components import components
from saidhere.gaps import MOST_GAPS, are_within, counted, field_of, is_first, is_gap, is_last, kept_gaps
from saidhere.gaps import strides, ways_both
from saidhere.kinds import is_listing, is_whole
from saidhere.leastways import least_way
from saidhere.pairs import check_alphabets, marks_in
from saidhere.plain import is_long_row
from saidhere.readers import standings_ahead, standings_behind


class Most:
    """The greatest number of marked places, with ranks that show it; or three rows that show that there is none."""

    def __init__(self, bounded, number, row, ranks, before, turn, after):
        self.bounded = bounded
        self.number = number
        self.row = row
        self.ranks = ranks
        self.before = before
        self.turn = turn
        self.after = after

    def __bool__(self):
        return bool(self.bounded)


def group_numbers(groups, many):
    """For each of so many nodes, the number of its group."""
    found = [0 for _ in range(many)]
    for number, group in enumerate(groups):
        for node in group:
            found[node] = number
    return found


def endless_stride(steps, groups):
    """A marked stride from which ways lead back: (node, letter, node); None if there is none."""
    inside = group_numbers(groups, len(steps))
    for node, told in enumerate(steps):
        for letter, after, marked in told:
            if marked and inside[node] == inside[after]:
                return node, letter, after
    return None


def ranks_of(steps, groups):
    """For each node, the greatest number of marked strides on a way from it; no way back has a marked one."""
    ranks = [0 for _ in steps]
    for group in reversed(list(groups)):
        found = [ranks[after] + int(marked) for node in group for letter, after, marked in steps[node]]
        best = max(found, default=0)
        for node in group:
            ranks[node] = best
    return ranks


def tight_steps(steps, ranks):
    """The strides that lose no rank: a way with the greatest number of marked strides has no others."""
    told = []
    for node, rank in enumerate(ranks):
        told.append([step for step in steps[node] if ranks[step[1]] + int(step[2]) == rank])
    return told


def unbounded(alphabet, gaps, steps, stride):
    """The three rows that show that there is no greatest number."""
    node, letter, after = stride
    numbers = range(len(gaps))
    before = least_way(alphabet, steps, [k for k in numbers if is_first(gaps[k])], [node])
    back = least_way(alphabet, steps, [after], [node])
    rest = least_way(alphabet, steps, [node], [k for k in numbers if is_last(gaps[k])])
    return Most(False, None, None, None, before, alphabet[letter] + back, rest)


def bounded(alphabet, gaps, steps, ranks):
    """The greatest number, with the least row and the ranks."""
    numbers = range(len(gaps))
    number = max([ranks[k] for k in numbers if is_first(gaps[k])])
    starts = [k for k in numbers if is_first(gaps[k]) and ranks[k] == number]
    goals = [k for k in numbers if is_last(gaps[k]) and ranks[k] == 0]
    row = least_way(alphabet, tight_steps(steps, ranks), starts, goals)
    return Most(True, number, row, tuple(list(zip(gaps, ranks))), None, None, None)


def most(wish, claim):
    """How many places of a row that is let the claim can mark: a Most."""
    check_alphabets(wish, claim)
    field = field_of(wish, claim)
    forward, backward = ways_both(field, wish, claim, MOST_GAPS)
    gaps, steps = strides(field, counted(forward, backward))
    groups = components([[after for letter, after, marked in told] for told in steps])
    stride = endless_stride(steps, groups)
    if stride is not None:
        return unbounded(wish.alphabet, gaps, steps, stride)
    return bounded(wish.alphabet, gaps, steps, ranks_of(steps, groups))


def kept_ranks(field, thing):
    """A table of ranks as a dict, the first item of each gap; None if it is none."""
    if not is_listing(thing):
        return None
    found = {}
    for item in thing:
        if not is_listing(item) or len(item) != 2 or not is_gap(field, item[0]):
            return None
        if not is_whole(item[1]) or item[1] < 0:
            return None
        found[tuple(item[0])] = found.get(tuple(item[0]), item[1])
    return found


def judge_ranks(wish, claim, table, number):
    """Whether a table of ranks shows that no row that is let has more marked places than the number."""
    check_alphabets(wish, claim)
    field = field_of(wish, claim)
    ranks = kept_ranks(field, table)
    if ranks is None or not is_whole(number) or number < 0:
        return False
    forward, backward = ways_both(field, wish, claim, None)
    counting = counted(forward, backward)
    if not are_within(counting, kept_gaps(field, list(ranks))):
        return False
    gaps, steps = strides(field, counting)
    for gap, told in zip(gaps, steps):
        if is_first(gap) and ranks[gap] > number:
            return False
        if not all([ranks[gaps[after]] + int(marked) <= ranks[gap] for letter, after, marked in told]):
            return False
    return True


def gap_behind(wish, claim, ahead, behind):
    """The gap behind a row ahead, with a row behind it."""
    standings = []
    for pair in (wish, claim):
        letter = pair.alphabet[0]
        left = standings_ahead(pair.alphabet, pair.left, ahead + letter)[-1]
        standings.append((left, standings_behind(pair.alphabet, pair.right, letter + behind)[0]))
    return standings


def judge_pump(wish, claim, before, turn, after):
    """Whether three rows show that there is no greatest number of marked places."""
    check_alphabets(wish, claim)
    if not all([is_long_row(wish.alphabet, row) for row in (before, turn, after)]):
        return False
    if not all(marks_in(wish, before + turn + after)):
        return False
    marks = marks_in(claim, before + turn + after)[len(before):len(before + turn)]
    if not any(marks):
        return False
    return gap_behind(wish, claim, before, turn + after) == gap_behind(wish, claim, before + turn, after)
