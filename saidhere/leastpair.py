"""The least pair of a mark, and the rows that show that no standing of it can be spared."""

from saidhere.masks import has_bit, lowest
from saidhere.pairs import least_pair
from saidhere.readers import reached_ahead, reached_behind


def least(pair):
    """The least pair with the mark of the pair."""
    return least_pair(pair.alphabet, pair.left, pair.right, pair.masks)


def twos(many):
    """All pairs of two of so many standings, the lesser one first, ascending."""
    return [(one, other) for one in range(many) for other in range(one + 1, many)]


def least_of(found):
    """The least placed row of some."""
    return min(found, key=lambda placed: (len(placed[0]), placed))


def parted_at_once_ahead(pair):
    """For two left standings, the least row whose first place parts them, if there is one."""
    _, rows, _ = reached_behind(pair.alphabet, (pair.right,), None)
    at_once = {}
    for one, other in twos(len(pair.left)):
        unlike = [x ^ y for x, y in zip(pair.masks[one], pair.masks[other])]
        found = [(letter + rows[lowest(mask)], 0) for letter, mask in zip(pair.alphabet, unlike) if mask]
        if found:
            at_once[(one, other)] = least_of(found)
    return at_once


def parted_at_once_behind(pair):
    """For two right standings, the least row whose last place parts them, if there is one."""
    _, rows, _ = reached_ahead(pair.alphabet, (pair.left,), None)
    at_once = {}
    for one, other in twos(len(pair.right)):
        found = []
        for row, masks in zip(rows, pair.masks):
            for letter, mask in zip(pair.alphabet, masks):
                if has_bit(mask, one) != has_bit(mask, other):
                    found.append((row + letter, len(row)))
        if found:
            at_once[(one, other)] = least_of(found)
    return at_once


def followers(reader, one, other):
    """For each letter, the two standings to which it leads these two, the lesser one first."""
    return [(min(x, y), max(x, y)) for x, y in zip(reader[one], reader[other])]


def lengthened(letter, placed, side):
    """The placed row with the letter put to it on the side of the readers that it is to part."""
    if side == "left":
        return letter + placed[0], placed[1] + 1
    return placed[0] + letter, placed[1]


def grown(alphabet, reader, best, two, side):
    """What parts two standings by what is found already for those that follow them."""
    steps = list(zip(alphabet, followers(reader, two[0], two[1])))
    return [lengthened(letter, best[after], side) for letter, after in steps if after in best]


def parted(alphabet, reader, at_once, side):
    """The least placed row that parts each two standings of a least reader.

    They are settled by their lengths: a least row begins (ends, on the right) with a letter that leads
    to two standings whose own least row is the rest, unless it parts them at once.
    """
    best = {}
    length = 0
    unsettled = twos(len(reader))
    while unsettled:
        length += 1
        newer = {}
        for two in unsettled:
            found = grown(alphabet, reader, best, two, side)
            if two in at_once:
                found = found + [at_once[two]]
            short = [placed for placed in found if len(placed[0]) == length]
            if short:
                newer[two] = min(short)
        for two, placed in newer.items():
            best[two] = placed
        unsettled = [two for two in unsettled if two not in best]
    return tuple([two + best[two] for two in twos(len(reader))])


def parted_ahead(pair):
    """What parts each two standings of the left reader of the least pair: (p, o, row, place)."""
    small = least(pair)
    return parted(small.alphabet, small.left, parted_at_once_ahead(small), "left")


def parted_behind(pair):
    """What parts each two standings of the right reader of the least pair: (q, o, row, place)."""
    small = least(pair)
    return parted(small.alphabet, small.right, parted_at_once_behind(small), "right")
