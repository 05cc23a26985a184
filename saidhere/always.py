"""What always holds: whether a claim marks all places of the rows whose places a wish marks all."""

from saidhere.gaps import MOST_GAPS, counted, field_of, is_first, is_last, kept_gaps, listed, strides, turned
from saidhere.gaps import turned_field, ways_both
from saidhere.leastways import least_way
from saidhere.pairs import Pair, check_alphabets, marks_in
from saidhere.plain import check_row
from saidhere.readers import item_after


class Always:
    """Two tables of gaps if a claim always holds, otherwise the least placed row where it does not."""

    def __init__(self, holds, forward, backward, row, place):
        self.holds = holds
        self.forward = forward
        self.backward = backward
        self.row = row
        self.place = place

    def __bool__(self):
        return bool(self.holds)


def is_let(wish, row):
    """Whether the wish marks all places of the row."""
    check_row(wish.alphabet, row)
    return all(marks_in(wish, row))


def least_break(alphabet, gaps, steps):
    """The least row that is let and has a stride that is not marked.

    Each gap is there twice: as before such a stride, and as behind one.
    """
    doubled = []
    for told in steps:
        doubled.append([(letter, 2 * after + (0 if marked else 1)) for letter, after, marked in told])
        doubled.append([(letter, 2 * after + 1) for letter, after, marked in told])
    starts = [2 * number for number, gap in enumerate(gaps) if is_first(gap)]
    goals = [2 * number + 1 for number, gap in enumerate(gaps) if is_last(gap)]
    return least_way(alphabet, doubled, starts, goals)


def always(wish, claim):
    """Whether the claim marks all places of each row that the wish lets: an Always."""
    check_alphabets(wish, claim)
    field = field_of(wish, claim)
    forward, backward = ways_both(field, wish, claim, MOST_GAPS)
    gaps, steps = strides(field, counted(forward, backward))
    if all([marked for told in steps for letter, after, marked in told]):
        return Always(True, tuple(listed(field, forward)), tuple(listed(field, backward)), None, None)
    row = least_break(wish.alphabet, gaps, steps)
    return Always(False, None, None, row, list(marks_in(claim, row)).index(False))


def are_marked(field, forward, backward):
    """Whether each stride from a gap of forward to a gap of backward is marked."""
    for item, mask in forward.items():
        for letter in range(len(field.alphabet)):
            after = item_after(field.lefts, item, letter)
            there = field.stridden(item, mask, letter) & backward.get(after, 0)
            if there & ~field.claimed[item[1]][letter]:
                return False
    return True


def judge_always(wish, claim, forward, backward):
    """Whether two tables of gaps show that the claim always holds under the wish."""
    check_alphabets(wish, claim)
    field = field_of(wish, claim)
    ahead = kept_gaps(field, forward)
    behind = kept_gaps(field, backward)
    if ahead is None or behind is None or not field.is_closed(ahead):
        return False
    other = turned_field(wish, claim)
    return other.is_closed(turned(behind, other)) and are_marked(field, ahead, behind)


def follows(one, other, *, wish=None):
    """Whether the mark of the other follows from that of the one in all rows that are let: an Always."""
    check_alphabets(one, other)
    if wish is None:
        return always(Pair.of_letters(one.alphabet, one.alphabet), ~one | other)
    check_alphabets(one, wish)
    return always(wish, ~one | other)
