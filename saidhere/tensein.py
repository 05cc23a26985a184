"""The derivation of a tense sheet: the least pair of each of its parts, step by step.

A step makes a machine of those of the parts that it refers to. What looks back is what looks forward
in the mirrored machines.
"""

from saidhere.machines import class_moves, firsts_of, mirrored_masks, refined
from saidhere.masks import has_bit, mask_of
from saidhere.pairs import Pair, least_pair
from saidhere.readers import MOST_STANDINGS, check_most, item_after, reached_ahead
from saidhere.sheets import referred, renumbered
from saidhere.tense import tense_sheet


def next_machine(machine):
    """The machine of `next`: a right standing keeps the letter that comes next, and what is behind that.

    The right standing 0 is that of the empty row.
    """
    left, right, table = machine
    letters = range(len(left[0]))
    many = len(right)
    moves = [tuple([1 + b * many for b in letters])]
    for letter in letters:
        for move in right:
            moves.append(tuple([1 + b * many + move[letter] for b in letters]))
    masks = [
        tuple([sum([table[move[a]][b] << (1 + b * many) for b in letters]) for a in letters]) for move in left
    ]
    return left, moves, masks


def columns_of(table, standings, many):
    """For each letter and each of so many right standings, the mask of the items that have one of them marked.

    Standings has the left standing of each item.
    """
    letters = range(len(table[0]))
    told = []
    for k in letters:
        told.append([mask_of([has_bit(table[p][k], q) for p in standings]) for q in range(many)])
    return told


def reached_at_once(moves):
    """The mask of the items to which a letter leads."""
    found = 0
    for move in moves:
        for follower in move:
            found = found | (1 << follower)
    return found


class Promises:
    """What rows behind bring about for `until`, told at the items of the left readers of both its machines.

    A promise is the mask of the items at which the formula holds, with the row behind. Only items that a
    letter leads to matter, so different promises part rows behind: they are no more than standings may be.
    """

    def __init__(self, alphabet, first, second):
        ahead, _, moves = reached_ahead(alphabet, (first[0], second[0]), None)
        self.rights = (first[1], second[1])
        self.moves = moves
        self.ways = columns_of(first[2], [p for p, o in ahead], len(first[1]))
        self.aims = columns_of(second[2], [o for p, o in ahead], len(second[1]))
        self.reached = reached_at_once(moves)
        self.masks = []
        self.numbers = {}
        self.pulled = []
        self.note(0)

    def note(self, mask):
        """The number of a promise."""
        if mask not in self.numbers:
            self.numbers[mask] = len(self.masks)
            self.masks.append(mask)
            check_most(len(self.masks), MOST_STANDINGS)
            columns = [[move[k] for move in self.moves] for k in range(len(self.moves[0]))]
            self.pulled.append([mask_of([has_bit(mask, after) for after in column]) for column in columns])
        return self.numbers[mask]

    def followed(self, stand, letter):
        """The right standings and the promise that a letter leads to, put ahead of a row behind."""
        way = self.ways[letter][stand[0]] & self.pulled[stand[2]][letter]
        promise = (self.aims[letter][stand[1]] | way) & self.reached
        return item_after(self.rights, stand[:2], letter) + (self.note(promise),)

    def walked(self):
        """All right standings with their promises, and the moves between them."""
        found = [(0, 0, 0)]
        numbers = {(0, 0, 0): 0}
        moves = []
        at = 0
        while at < len(found):
            move = []
            for letter in range(len(self.moves[0])):
                follower = self.followed(found[at], letter)
                if follower not in numbers:
                    numbers[follower] = len(found)
                    found.append(follower)
                move.append(numbers[follower])
            moves.append(tuple(move))
            at += 1
        return found, moves


def until_machine(alphabet, first, second):
    """The machine of `until`: its right standings are the classes of those with promises."""
    promises = Promises(alphabet, first, second)
    found, moves = promises.walked()
    numbers = refined(moves, [stand[2] for stand in found], MOST_STANDINGS)
    firsts = firsts_of(numbers)
    kept = [promises.masks[found[standing][2]] for standing in firsts]
    table = []
    for move in promises.moves:
        table.append(tuple([mask_of([has_bit(mask, after) for mask in kept]) for after in move]))
    return promises.moves, class_moves(moves, numbers, firsts), table


def mirrored_all(machines):
    """Machines that tell of the reversed rows what these tell of the rows."""
    return [mirrored_masks(left, right, table) for left, right, table in machines]


def machine_of_step(alphabet, word, machines):
    """The machine of a part with this word that refers to parts with these machines."""
    if word == "next":
        return next_machine(machines[0])
    if word == "until":
        return until_machine(alphabet, machines[0], machines[1])
    turned = mirrored_all(machines)
    machine = next_machine(turned[0]) if word == "prev" else until_machine(alphabet, turned[0], turned[1])
    return mirrored_masks(machine[0], machine[1], machine[2])


def marked_letters(alphabet, number):
    """The letters that stand for places that the mark of a rule with this number marks."""
    return "".join([letter for at, letter in enumerate(alphabet) if has_bit(at, number)])


def step_pair(alphabet, part, pairs):
    """The least pair of a part, from those of the parts that it refers to, in their order."""
    word = part[0]
    if word == "yes":
        return Pair.of_letters(alphabet, alphabet)
    if word == "no":
        return Pair.of_letters(alphabet, "")
    if word == "letter":
        return Pair.of_letters(alphabet, part[1])
    if word == "mark":
        return Pair.of_letters(alphabet, marked_letters(alphabet, part[1]))
    if word == "not":
        return ~pairs[0]
    if word == "and":
        return pairs[0] & pairs[1]
    if word == "or":
        return pairs[0] | pairs[1]
    left, right, table = machine_of_step(alphabet, word, [(x.left, x.right, x.masks) for x in pairs])
    return least_pair(alphabet, left, right, table)


class Derivation:
    """The different marks of parts, numbered, as least pairs.

    Many parts of a long sheet may have one mark: what is made of marks is made once.
    """

    def __init__(self, alphabet):
        self.alphabet = alphabet
        self.pairs = []
        self.listed_at = {}
        self.made_of = {}

    def listed_number(self, pair):
        """The number of the mark of a least pair."""
        key = (pair.left, pair.right, pair.marked)
        if key not in self.listed_at:
            self.listed_at[key] = len(self.pairs)
            self.pairs.append(pair)
        return self.listed_at[key]

    def number_of_step(self, step):
        """The number of the mark of a part that refers to marks by their numbers."""
        if step not in self.made_of:
            pair = step_pair(self.alphabet, step, [self.pairs[number] for number in step_numbers(step)])
            self.made_of[step] = self.listed_number(pair)
        return self.made_of[step]

    def numbers_of(self, kept):
        """The number of the mark of each part of a sheet."""
        numbers = []
        for part in kept:
            numbers.append(self.number_of_step(renumbered_part(part, numbers)))
        return numbers


def step_numbers(step):
    """The numbers that a part of a sheet or of a rule sheet refers to; `mark` bears one that is none of a part."""
    return [] if step[0] == "mark" else referred(step)


def renumbered_part(part, numbers):
    """The part with its references led to other numbers."""
    return part if part[0] == "mark" else renumbered(part, numbers)


def derive_tense(alphabet, sheet):
    """The least pair of each part, in their order."""
    kept = tense_sheet(alphabet, sheet)
    derivation = Derivation(alphabet)
    numbers = derivation.numbers_of(kept)
    return tuple([derivation.pairs[number] for number in numbers])
