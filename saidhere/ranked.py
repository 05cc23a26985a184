"""Rows of a length with so many marked places, by their numbers."""

from saidhere.counting import MOST_COUNTED, Counts, number_with, row_with
from saidhere.errors import BadNumber, Beyond, TooLong
from saidhere.kinds import is_below, is_whole
from saidhere.leastpair import least
from saidhere.pairs import marks_in
from saidhere.plain import check_row


def row_at(pair, n, many, number):
    """The row with a number among the rows of the length n with so many marked places."""
    if not is_below(n, MOST_COUNTED + 1):
        raise BadNumber(n)
    if not is_below(many, n + 1):
        raise BadNumber(many)
    if not is_whole(number) or number < 0:
        raise BadNumber(number)
    counts = Counts(least(pair), n)
    whole = counts.totals()[many]
    if number >= whole:
        raise Beyond(whole)
    return row_with(counts, many, number)


def number_of(pair, row):
    """The number of a row among the rows of its length with as many marked places."""
    check_row(pair.alphabet, row)
    if len(row) > MOST_COUNTED:
        raise TooLong(len(row))
    letters = [pair.alphabet.find(letter) for letter in row]
    return number_with(Counts(least(pair), len(row)), sum(marks_in(pair, row)), letters)
