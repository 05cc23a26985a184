"""Named sheets, of three names, made of cuts.

Of each set it is said, of two named places, the first one before the other: the letters behind the first one,
up to and with the other one, form a row of the set. START in the place of the first name stands for the
beginning of the row. Whether a set has the empty row is known beforehand, and said nowhere.
"""

from saidhere.errors import TooMany
from saidhere.formulas import NamedFormulas
from saidhere.named import MARKING
from saidhere.plainsets import kept_cuts, set_sheet
from saidhere.sheets import tidied

THREE = "xyz"
START = ""
MOST_SETS = 40
MOST_APPLIED = 40


def empties(kept):
    """For each part of a kept set sheet, whether it has the empty row."""
    told = []
    for part in kept:
        word = part[0]
        if word == "not":
            told.append(not told[part[1]])
        elif word in ("and", "then"):
            told.append(told[part[1]] and told[part[2]])
        elif word == "or":
            told.append(told[part[1]] or told[part[2]])
        else:
            told.append(word == "empty")
    return told


def third_name(one, other):
    """A name that is neither of two."""
    return [name for name in THREE if name not in (one, other)][0]


def behind_start(formulas, start, name):
    """That a named place is behind another one, or behind the beginning of the row."""
    return formulas.yes if start == START else formulas.ahead_of(start, name)


def amid_start(formulas, start, name, end):
    """That a named place is between another one, or the beginning of the row, and an end."""
    return formulas.both(behind_start(formulas, start, name), formulas.ahead_of(name, end))


def parted_row(formulas, part, empty, said, twos):
    """That the row from a start to an end can be parted in two; said has what is said of the parts ahead."""
    start, end = twos
    first, second = said[part[1]], said[part[2]]
    amid = third_name(start, end)
    halves = formulas.both(first[(start, amid)], second[(amid, end)])
    told = formulas.somewhere(amid, formulas.both(amid_start(formulas, start, amid, end), halves))
    if empty[part[1]]:
        told = formulas.either(told, second[twos])
    if empty[part[2]]:
        told = formulas.either(told, first[twos])
    return told


def row_said(formulas, part, empty, said, twos):
    """That the letters behind a start, up to and with an end, form a row of a part."""
    start, end = twos
    word = part[0]
    if word in ("none", "empty"):
        return formulas.no
    if word == "letter":
        amid = third_name(start, end)
        alone = formulas.nowhere(amid, amid_start(formulas, start, amid, end))
        return formulas.both(formulas.has_letter(part[1], end), alone)
    if word == "not":
        return formulas.negated(said[part[1]][twos])
    if word == "and":
        return formulas.both(said[part[1]][twos], said[part[2]][twos])
    if word == "or":
        return formulas.either(said[part[1]][twos], said[part[2]][twos])
    return parted_row(formulas, part, empty, said, twos)


def ahead_said(formulas, said, has_empty):
    """That the row ahead of x is in a set."""
    directly = formulas.both(formulas.ahead_of("y", "x"), formulas.nowhere("z", formulas.amid("y", "z", "x")))
    told = formulas.somewhere("y", formulas.both(directly, said[(START, "y")]))
    if has_empty:
        told = formulas.either(told, formulas.nowhere("y", formulas.ahead_of("y", "x")))
    return told


def behind_said(formulas, said, has_empty):
    """That the row behind x is in a set."""
    last = formulas.both(formulas.ahead_of("x", "y"), formulas.nowhere("z", formulas.ahead_of("y", "z")))
    told = formulas.somewhere("y", formulas.both(last, said[("x", "y")]))
    if has_empty:
        told = formulas.either(told, formulas.nowhere("y", formulas.ahead_of("x", "y")))
    return told


def named_from_cuts(alphabet, sheet, cuts):
    """A named sheet with the mark of cuts."""
    kept = set_sheet(alphabet, sheet)
    applied = kept_cuts(alphabet, len(kept), cuts)
    if len(kept) > MOST_SETS or len(applied) > MOST_APPLIED:
        raise TooMany("part")
    formulas = NamedFormulas()
    empty = empties(kept)
    twos = [(one, other) for one in (START, "x", "y", "z") for other in THREE if one != other]
    said = []
    for part in kept:
        said.append({two: row_said(formulas, part, empty, said, two) for two in twos})
    found = []
    for i, letter, j in applied:
        sides = formulas.both(ahead_said(formulas, said[i], empty[i]), behind_said(formulas, said[j], empty[j]))
        found.append(formulas.both(formulas.has_letter(letter, MARKING), sides))
    return tidied(formulas.parts, formulas.any_of(found))
