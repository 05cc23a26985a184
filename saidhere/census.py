"""The marked places of all rows of a length, counted."""

from saidhere.counting import MOST_COUNTED, Counts, row_with
from saidhere.errors import BadNumber
from saidhere.kinds import is_below
from saidhere.leastpair import least
from saidhere.masks import has_bit


def counts_of(pair, n):
    """The counts for the rows of a length."""
    if not is_below(n, MOST_COUNTED + 1):
        raise BadNumber(n)
    return Counts(least(pair), n)


def census(pair, n):
    """The numbers of rows of the length n with 0, 1, .., n marked places."""
    return tuple(counts_of(pair, n).totals())


def rows_leading(alphabet, reader, n):
    """For each length up to n, how many rows lead a reader to each of its standings."""
    numbers = [int(standing == 0) for standing in range(len(reader))]
    told = [numbers]
    for _ in range(n):
        newer = [0 for _ in reader]
        for many, move in zip(told[-1], reader):
            for after in move:
                newer[after] += many
        told.append(newer)
    return told


def shares(pair, n):
    """For each place, the number of rows of the length n in which it is marked."""
    if not is_below(n, MOST_COUNTED + 1):
        raise BadNumber(n)
    small = least(pair)
    ahead = rows_leading(small.alphabet, small.left, n)
    behind = rows_leading(small.alphabet, small.right, n)
    told = []
    for place in range(n):
        ends = behind[n - 1 - place]
        found = 0
        for many, masks in zip(ahead[place], small.masks):
            for mask in masks:
                found += many * sum([worth for q, worth in enumerate(ends) if has_bit(mask, q)])
        told.append(found)
    return tuple(told)


def fewest(pair, n):
    """The fewest marked places of a row of the length n, and the least row that has so many."""
    counts = counts_of(pair, n)
    number = [many > 0 for many in counts.totals()].index(True)
    return number, row_with(counts, number, 0)


def greatest(pair, n):
    """The most marked places of a row of the length n, and the least row that has so many."""
    counts = counts_of(pair, n)
    number = n - [many > 0 for many in counts.totals()[::-1]].index(True)
    return number, row_with(counts, number, 0)
