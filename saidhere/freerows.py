"""Rows that are enough to judge several readers together, however many items they reach.

An item of several readers is told as a vector: for each reader a 1 at its standing, and 0 at the others.
If each place is to be marked by exactly one of several pairs, the number of those that mark it, less 1,
is bilinear in the vectors of the row ahead and the row behind. So if the vector of a row is a sum of
multiples of vectors of lesser rows, and the row is part of a row at which the number is wrong, then one of
the lesser ones is part of such a row, too. The least wrong row is made of rows that are no such sums.
There are at most as many of these as standings of all readers together, while the items may be as many
as the product. All is counted modulo a prime that is greater than the number of pairs.
"""

from saidhere.readers import item_after

PRIME = 11
INVERSES = (0, 1, 6, 4, 3, 9, 2, 8, 7, 5, 10)


def vector_of(readers, item):
    """The vector of an item."""
    return [int(at == standing) for reader, standing in zip(readers, item) for at in range(len(reader))]


def without(vector, worth, other):
    """The vector less so many times the other one."""
    return [(x - worth * y) % PRIME for x, y in zip(vector, other)]


def rest_of(basis, vector):
    """What is left of a vector without those of the basis, each of which alone is not 0 at its own index."""
    rest = list(vector)
    for at, worth in enumerate(vector):
        if worth and at in basis:
            rest = without(rest, worth, basis[at])
    return rest


def widened(basis, rest):
    """The basis with what was left of a vector."""
    at = [bool(worth) for worth in rest].index(True)
    fresh = [INVERSES[rest[at]] * worth % PRIME for worth in rest]
    newer = {index: without(vector, vector[at], fresh) for index, vector in basis.items()}
    newer[at] = fresh
    return newer


def free_ahead(alphabet, readers):
    """The rows ahead that are enough, from the least on, with the items to which they lead left readers."""
    begin = tuple([0 for _ in readers])
    basis = widened({}, vector_of(readers, begin))
    kept = [("", begin)]
    at = 0
    while at < len(kept):
        row, item = kept[at]
        for number, letter in enumerate(alphabet):
            follower = item_after(readers, item, number)
            rest = rest_of(basis, vector_of(readers, follower))
            if any(rest):
                basis = widened(basis, rest)
                kept.append((row + letter, follower))
        at += 1
    return kept


def free_behind(alphabet, readers):
    """The rows behind that are enough, from the least on, with the items to which they lead right readers."""
    begin = tuple([0 for _ in readers])
    basis = widened({}, vector_of(readers, begin))
    kept = [("", begin)]
    level = [("", begin)]
    while level:
        newer = []
        for number, letter in enumerate(alphabet):
            for row, item in level:
                follower = item_after(readers, item, number)
                rest = rest_of(basis, vector_of(readers, follower))
                if any(rest):
                    basis = widened(basis, rest)
                    newer.append((letter + row, follower))
        kept = kept + newer
        level = list(newer)
    return kept


def first_wrong(masks, behind):
    """The least row behind, of those told, with which not just one of the masks tells a mark."""
    for row, item in behind:
        if sum([(mask >> standing) & 1 for mask, standing in zip(masks, item)]) != 1:
            return row
    return None


def least_wrong_row(alphabet, pairs):
    """The least row a place of which is marked by none, or by more than one, of some pairs; None if none is."""
    behind = free_behind(alphabet, [pair.right for pair in pairs])
    found = []
    for row, item in free_ahead(alphabet, [pair.left for pair in pairs]):
        for number, letter in enumerate(alphabet):
            masks = [pair.masks[standing][number] for pair, standing in zip(pairs, item)]
            rest = first_wrong(masks, behind)
            if rest is not None:
                found.append(row + letter + rest)
    return min(found, key=lambda whole: (len(whole), whole), default=None)
