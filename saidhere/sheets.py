"""What all sheets have in common: parts of told forms, which refer to parts ahead of them by their numbers."""

from saidhere.errors import BadSheet
from saidhere.kinds import is_below, is_listing
from saidhere.plain import is_letter

MOST_PARTS = 6000
MOST_MARKS = 3
NAMES = "uvwxyz"


def fits(alphabet, kind, number, thing):
    """Whether the thing is of this kind in the part with this number."""
    if kind == "part":
        return is_below(thing, number)
    if kind == "letter":
        return is_letter(alphabet, thing)
    if kind == "mark":
        return is_below(thing, MOST_MARKS)
    return is_letter(NAMES, thing)


def has_form(alphabet, table, number, part):
    """Whether the part with this number has one of the forms of the table."""
    if not is_listing(part) or len(part) == 0:
        return False
    word = part[0]
    if not isinstance(word, str) or word not in table:
        return False
    kinds = table[word]
    if len(part) != len(kinds) + 1:
        return False
    return all([fits(alphabet, kind, number, thing) for kind, thing in zip(kinds, part[1:])])


def wrong_part(alphabet, forms, sheet):
    """The number of the first part without one of the forms: -1 for the whole, None if it is a sheet.

    Forms has pairs of a word and the kinds of the things behind it.
    """
    if not is_listing(sheet) or not 1 <= len(sheet) <= MOST_PARTS:
        return -1
    table = dict(forms)
    for number, part in enumerate(sheet):
        if not has_form(alphabet, table, number, part):
            return number
    return None


def kept_sheet(alphabet, forms, sheet):
    """The sheet as tuples."""
    number = wrong_part(alphabet, forms, sheet)
    if number is not None:
        raise BadSheet(number)
    return tuple([tuple(part) for part in sheet])


def referred(part):
    """The numbers of the parts to which a part of a kept sheet refers."""
    return [thing for thing in part[1:] if isinstance(thing, int)]


def renumbered(part, numbers):
    """The part with its references led to other numbers."""
    return tuple([numbers[thing] if isinstance(thing, int) else thing for thing in part])


def needed(kept, wanted):
    """The numbers of the parts wanted, and of those that they refer to, directly or through others, ascending."""
    found = {number: True for number in wanted}
    for number in range(len(kept) - 1, -1, -1):
        if number in found:
            for other in referred(kept[number]):
                found[other] = True
    return sorted(found)


def tidied(kept, last):
    """The tidy sheet of the sheet that ends with this part.

    Parts are listed as a text would list them: behind those that they refer to, the left one first,
    and a part that is equal to a listed one not again.
    """
    numbers = {}
    listed = {}
    waiting = [last]
    while waiting:
        at = waiting[-1]
        ahead = [number for number in referred(kept[at]) if number not in numbers]
        if ahead:
            waiting.append(ahead[0])
        else:
            part = renumbered(kept[at], numbers)
            if part not in listed:
                listed[part] = len(listed)
            numbers[at] = listed[part]
            waiting.pop()
    return tuple(list(listed))


def joined_parts(lists):
    """The parts of several lists in one, each part once, and for each list the numbers that its parts have there."""
    listed = {}
    told = []
    for parts in lists:
        numbers = []
        for part in parts:
            kept = renumbered(part, numbers)
            if kept not in listed:
                listed[kept] = len(listed)
            numbers.append(listed[kept])
        told.append(numbers)
    return tuple(list(listed)), told
