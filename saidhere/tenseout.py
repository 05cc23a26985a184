"""Tense sheets of steady marks."""

from saidhere.errors import TooMany
from saidhere.formulas import TenseFormulas
from saidhere.leastpair import least
from saidhere.sheets import MOST_PARTS, renumbered, tidied
from saidhere.splitting import split_of


def added(formulas, sheet):
    """The numbers that the parts of a sheet have among the formulas."""
    numbers = []
    for part in sheet:
        if part[0] == "not":
            numbers.append(formulas.negated(numbers[part[1]]))
        else:
            numbers.append(formulas.made(renumbered(part, numbers)))
    return numbers


def letters_part(formulas, alphabet, letters):
    """The part that holds at the places with one of the letters."""
    others = [letter for letter in alphabet if letter not in letters]
    if len(others) < len(letters):
        return formulas.negated(formulas.any_of([formulas.made(("letter", letter)) for letter in others]))
    return formulas.any_of([formulas.made(("letter", letter)) for letter in letters])


def grouped(twos):
    """The second things of pairs, by the first ones, in order."""
    found = {}
    for one, other in twos:
        found[one] = found.get(one, []) + [other]
    return found


def here_and_behind(formulas, alphabet, twos):
    """Where a letter and a part of one of the pairs hold: what a place needs, if the row ahead leads to a standing."""
    found = []
    for part, letters in grouped(twos).items():
        found.append(formulas.both(letters_part(formulas, alphabet, letters), part))
    return formulas.any_of(found)


def joined_pieces(formulas, alphabet, pieces, standings):
    """The part that holds where one of the pieces applies.

    There are so many standings of which the row ahead leads to one: if all of them need the same, the row
    ahead does not matter.
    """
    needs = []
    for part, twos in grouped([(i, (j, letter)) for i, letter, j in pieces]).items():
        needs.append((here_and_behind(formulas, alphabet, twos), part))
    found = []
    for need, parts in grouped(needs).items():
        ahead = formulas.yes if len(parts) == standings else formulas.any_of(parts)
        found.append(formulas.both(ahead, need))
    return formulas.any_of(found)


def tense_of(pair):
    """A tense sheet of the mark of a pair."""
    split = split_of(pair)
    formulas = TenseFormulas("prev", "since")
    numbers = added(formulas, split.sheet)
    pieces = [(numbers[i], letter, numbers[j]) for i, letter, j in split.pieces]
    last = joined_pieces(formulas, split.alphabet, pieces, len(least(pair).left))
    sheet = tidied(formulas.parts, last)
    if len(sheet) > MOST_PARTS:
        raise TooMany("part")
    return sheet
