"""With which places of a row the parts of a named sheet hold.

A placing gives each name of a sheet a place; it is numbered by its places as digits, the first name
having the lowest one. What a part holds with is a mask of placings, in which names that are not free
in the part do not matter. In the empty row there is one placing: it stands for no place at all, so no
part asks about it but those without free names.
"""

from saidhere.named import names_of


class Placings:
    """The placings of some names in a row: for each name its step, and the placings with its first place."""

    def __init__(self, names, row):
        self.row = row
        self.steps = {}
        many = 1
        for name in names:
            self.steps[name] = many
            many = many * max(len(row), 1)
        self.whole = (1 << many) - 1
        self.firsts = {name: first_placings(step, max(len(row), 1), many) for name, step in self.steps.items()}

    def with_place(self, name, place):
        """The placings that give the name this place."""
        return self.firsts[name] << (place * self.steps[name])

    def placing_at(self, places):
        """The number of the placing with these places, and the first place for each other name."""
        return sum([self.steps[name] * place for name, place in places.items()])


def first_placings(step, base, many):
    """The placings, of so many, whose digit with this step and base is 0."""
    found = 0
    for number in range(0, many, step * base):
        found = found | (((1 << step) - 1) << number)
    return found


def letter_placings(placings, letter, name):
    """The placings that name a place with this letter."""
    found = 0
    for place, other in enumerate(placings.row):
        if other == letter:
            found = found | placings.with_place(name, place)
    return found


def less_placings(placings, one, other):
    """The placings that have the one name's place before the other's."""
    found = 0
    before = 0
    for place in range(len(placings.row)):
        found = found | (before & placings.with_place(other, place))
        before = before | placings.with_place(one, place)
    return found


def same_placings(placings, one, other):
    """The placings that give both names one place."""
    found = 0
    for place in range(len(placings.row)):
        found = found | (placings.with_place(one, place) & placings.with_place(other, place))
    return found


def some_placings(placings, name, mask):
    """The placings that are in the mask if the name's place is changed, for at least one place."""
    found = 0
    step = placings.steps[name]
    for place in range(len(placings.row)):
        found = found | ((mask >> (place * step)) & placings.firsts[name])
    spread = 0
    for place in range(len(placings.row)):
        spread = spread | (found << (place * step))
    return spread


def held_placings(placings, part, held):
    """The placings with which a part holds, from those of the parts ahead."""
    word = part[0]
    if word == "letter":
        return letter_placings(placings, part[1], part[2])
    if word == "less":
        return less_placings(placings, part[1], part[2])
    if word == "same":
        return same_placings(placings, part[1], part[2])
    if word == "some":
        return some_placings(placings, part[1], held[part[2]])
    if word == "all":
        return placings.whole ^ some_placings(placings, part[1], placings.whole ^ held[part[2]])
    if word == "not":
        return placings.whole ^ held[part[1]]
    if word == "and":
        return held[part[1]] & held[part[2]]
    if word == "or":
        return held[part[1]] | held[part[2]]
    return placings.whole if word == "yes" else 0


def last_held(kept, row):
    """The placings of the names of a kept sheet in a row, and the mask of those with which its last part holds."""
    placings = Placings(names_of(kept), row)
    held = []
    for part in kept:
        held.append(held_placings(placings, part, held))
    return placings, held[-1]
