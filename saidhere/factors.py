"""Which rows within a row are in the parts of a set sheet.

For each part there is a table: for each length, from 0 to that of the whole row, the mask of the places
(the one behind the last letter, too) at which a row of this length begins that is in the part.
"""

from saidhere.masks import has_bit, mask_of
from saidhere.sheets import needed

SINGLES = ("none", "empty", "letter")


def whole_table(many):
    """The table of all rows within a row of so many letters."""
    return tuple([(1 << (many + 1 - length)) - 1 for length in range(many + 1)])


def parted_in_two(first, second, whole):
    """The table of the rows that can be parted in two, the first table having one and the second the other.

    Only lengths of which there are rows matter, and it is enough to go through those of one side.
    """
    firsts = [length for length, mask in enumerate(first) if mask]
    lasts = [length for length, mask in enumerate(second) if mask]
    by_first = len(firsts) <= len(lasts)
    table = []
    for total, most in enumerate(whole):
        found = 0
        for length in firsts if by_first else lasts:
            if length > total or found == most:
                break
            ahead = length if by_first else total - length
            found = found | (first[ahead] & (second[total - ahead] >> ahead))
        table.append(found)
    return tuple(table)


def single_table(part, row, whole):
    """The table of a part that refers to none."""
    table = [0 for _ in whole]
    if part[0] == "empty":
        table[0] = whole[0]
    elif part[0] == "letter" and row != "":
        table[1] = mask_of([letter == part[1] for letter in row])
    return tuple(table)


def joined_table(part, tables, whole):
    """The table of a part that refers to others."""
    first = tables[part[1]]
    if part[0] == "not":
        return tuple([x ^ most for x, most in zip(first, whole)])
    second = tables[part[2]]
    if part[0] == "and":
        return tuple([x & y for x, y in zip(first, second)])
    if part[0] == "or":
        return tuple([x | y for x, y in zip(first, second)])
    return parted_in_two(first, second, whole)


def factor_tables(kept, row, wanted):
    """The tables of the parts wanted, and of those that they need, by their numbers.

    Many parts of a long sheet have one table, so what is joined is kept by the tables themselves.
    """
    whole = whole_table(len(row))
    tables = {}
    known = {}
    for number in needed(kept, wanted):
        part = kept[number]
        if part[0] in SINGLES:
            tables[number] = single_table(part, row, whole)
            continue
        key = (part[0],) + tuple([tables[other] for other in part[1:]])
        if key not in known:
            known[key] = joined_table(part, tables, whole)
        tables[number] = known[key]
    return tables


def has_factor(table, begin, end):
    """Whether the row within the whole one from a place up to another one is in the part with this table."""
    return has_bit(table[end - begin], begin)
