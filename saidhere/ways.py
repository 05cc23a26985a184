"""The least rows with which a place becomes marked or not: put behind its row, or ahead of it."""

from saidhere.masks import has_bit
from saidhere.plain import check_place, check_row
from saidhere.readers import reached_ahead, reached_behind


def firsts_told(rows, told):
    """The first row of which True is told, and the first one of which False is; None where there is none."""
    found = {holds: row for row, holds in reversed(list(zip(rows, told)))}
    return found.get(True), found.get(False)


def led_from(alphabet, reader, standing, letters):
    """The standing to which letters, one after the other, lead a reader from another standing."""
    for letter in letters:
        standing = reader[standing][alphabet.find(letter)]
    return standing


def ways_on(pair, row, place):
    """The least row behind the row with which the place is marked, and the least one with which it is not."""
    check_row(pair.alphabet, row)
    check_place(row, place)
    p = led_from(pair.alphabet, pair.left, 0, row[:place])
    mask = pair.masks[p][pair.alphabet.find(row[place])]
    things, rows, _ = reached_behind(pair.alphabet, (pair.right,), None)
    rest = row[:place:-1]
    ends = [led_from(pair.alphabet, pair.right, thing[0], rest) for thing in things]
    return firsts_told(rows, [has_bit(mask, q) for q in ends])


def ways_back(pair, row, place):
    """The least row ahead of the row with which the place is marked, and the least one with which it is not."""
    check_row(pair.alphabet, row)
    check_place(row, place)
    q = led_from(pair.alphabet, pair.right, 0, row[:place:-1])
    number = pair.alphabet.find(row[place])
    items, rows, _ = reached_ahead(pair.alphabet, (pair.left,), None)
    begins = [led_from(pair.alphabet, pair.left, item[0], row[:place]) for item in items]
    return firsts_told(rows, [has_bit(pair.masks[p][number], q) for p in begins])
