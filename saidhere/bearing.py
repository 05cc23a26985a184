"""From which rows a row over the target of a layer can come."""

from saidhere.plain import check_row
from saidhere.seams import Seams, each_led, live_steps


class Bearing:
    """How many rows are led to a row, the least and the greatest of them, and the letters that all of them have."""

    def __init__(self, number, least, greatest, sure):
        self.number = number
        self.least = least
        self.greatest = greatest
        self.sure = sure


def numbers_ahead(seams, numbers, number):
    """How many ways there are from each seam ahead of a target letter, by how many there are behind it."""
    found = [[0 for _ in seams.right] for _ in seams.left]
    for standing, move in enumerate(seams.left):
        for letter, after in enumerate(move):
            mask = seams.told[standing][letter * seams.size + number]
            for q, many in enumerate(numbers[after]):
                if many and (mask >> q) & 1:
                    found[standing][seams.right[q][letter]] += many
    return found


def number_led(seams, row):
    """How many rows are led to a row."""
    numbers = [[int(q == 0) for q in range(len(seams.right))] for _ in seams.left]
    for number in reversed(list(seams.letter_numbers(row))):
        numbers = numbers_ahead(seams, numbers, number)
    return sum(numbers[0])


def outermost(seams, alive, row, at):
    """The least (at 0) or the greatest (at -1) row that is led to a row; None if there is none."""
    if alive[0][0] == 0:
        return None
    told, standing, mask = "", 0, alive[0][0]
    while len(told) < len(row):
        letter, standing, mask = live_steps(seams, alive, row, told, standing, mask)[at]
        told = told + seams.alphabet[letter]
    return told


def letters_at(seams, stand, alive, number):
    """The letters that can be led to a target letter, between a stand and what is alive behind it."""
    found = {}
    for standing, mask in enumerate(stand):
        for letter, (after, behind) in enumerate(seams.steps_behind(standing, mask, number)):
            if behind & alive[after]:
                found[letter] = True
    return list(found)


def sure_letters(seams, alive, row):
    """For each place the letter that all rows that are led to a row have there; None where there is none."""
    stand = (alive[0][0],) + tuple([0 for _ in seams.left[1:]])
    told = []
    for at, number in enumerate(seams.letter_numbers(row)):
        letters = letters_at(seams, stand, alive[at + 1], number)
        told.append(seams.alphabet[letters[0]] if len(letters) == 1 else None)
        stand = seams.stand_after(stand, number)
    return tuple(told)


def bearing(layer, row):
    """What the rows are that the layer leads to a row: a Bearing."""
    check_row(layer.target, row)
    seams = Seams(layer)
    alive = seams.all_alive(row)
    least = outermost(seams, alive, row, 0)
    greatest = outermost(seams, alive, row, -1)
    return Bearing(number_led(seams, row), least, greatest, sure_letters(seams, alive, row))


def rows_behind(layer, row):
    """All rows that the layer leads to a row, one by one, ascending."""
    check_row(layer.target, row)
    for told in each_led(layer, row):
        yield told
