"""Named sheets, of three names, made of tense sheets.

Each part is said of each of the names: the place of which it speaks has one of them, the place to which it
looks has another one, and the places between have the third.
"""

from saidhere.errors import TooMany
from saidhere.formulas import NamedFormulas
from saidhere.named import MARKING
from saidhere.sheets import tidied
from saidhere.tense import LATER
from saidhere.tidying import tidy_tense

THREE = "xyz"
MOST_TIDY = 100


def looking_part(formulas, part, said, here, names):
    """A part that looks from one named place to another one; names has that of the other one, and the third."""
    there, amid = names
    one, other = (here, there) if part[0] in LATER else (there, here)
    between = formulas.amid(one, amid, other)
    if part[0] in ("next", "prev"):
        way = formulas.nowhere(amid, between)
    else:
        way = formulas.everywhere(amid, formulas.either(formulas.negated(between), said[part[1]][amid]))
    aim = formulas.both(formulas.ahead_of(one, other), said[part[-1]][there])
    return formulas.somewhere(there, formulas.both(aim, way))


def said_of(formulas, part, said, name):
    """A part said of a named place; said has, for each part ahead, what is said of each name."""
    word = part[0]
    if word in ("yes", "no"):
        return formulas.yes if word == "yes" else formulas.no
    if word == "letter":
        return formulas.has_letter(part[1], name)
    if word == "not":
        return formulas.negated(said[part[1]][name])
    if word == "and":
        return formulas.both(said[part[1]][name], said[part[2]][name])
    if word == "or":
        return formulas.either(said[part[1]][name], said[part[2]][name])
    return looking_part(formulas, part, said, name, [other for other in THREE if other != name])


def named_from_tense(alphabet, sheet):
    """A named sheet with the mark of a tense sheet."""
    tidy = tidy_tense(alphabet, sheet)
    if len(tidy) > MOST_TIDY:
        raise TooMany("part")
    formulas = NamedFormulas()
    said = []
    for part in tidy:
        said.append({name: said_of(formulas, part, said, name) for name in THREE})
    return tidied(formulas.parts, said[-1][MARKING])
