"""Set sheets that tell which rows lead a steady reader to a standing ([24]).

Rows are made of blocks, in one way only: first of letters, then of rows that end with an event. For each
standing s to begin in, and each standing t, there is a set with the rows of blocks of a whole that lead from
s to t. Told are dicts of the numbers of these sets by (s, t).
"""

from saidhere.events import letter_events, parted_events, peels_of


def end_set(formulas, ends, whole, s, t):
    """The set for s and t if all events are ends: the last one tells the standing, and s does if there is none."""
    if s == t:
        away = formulas.any_of([part for end, part in ends.items() if end != s])
        rest = formulas.lacking(whole, ends.get(s, formulas.no))
        return formulas.both(whole, formulas.negated(formulas.joined(formulas.joined(whole, away), rest)))
    if t not in ends:
        return formulas.no
    others = formulas.any_of([part for end, part in ends.items() if end != t])
    return formulas.joined(formulas.joined(whole, ends[t]), formulas.lacking(whole, others))


class SetLevel:
    """An event, the sets for the rows without it, and those of all rows, made of them."""

    def __init__(self, formulas, size, peel, whole, inner):
        self.formulas = formulas
        self.size = size
        self.peel = peel
        self.whole = whole
        self.inner = inner

    def up_to_event(self, s, v):
        """The rows that end with the first occurrence of the event and lead from s to v."""
        move = self.peel.move
        found = self.formulas.any_of([self.inner[(s, t)] for t in range(self.size) if move[t] == v])
        return self.formulas.joined(found, self.peel.part)

    def blocks_between(self, order):
        """For two standings of the image, the rows of blocks that lead from one to the other and end with the event."""
        formulas = self.formulas
        image = self.peel.image
        whole = formulas.either(formulas.empty, formulas.joined(self.whole, self.peel.part))
        events = []
        for move in self.peel.blocks:
            way = formulas.all_of([self.up_to_event(standing, move[standing]) for standing in image])
            events.append((self.peel.narrowed_map(move), way))
        return led_sets(formulas, len(image), events, whole, list(range(len(image))), order)

    def behind_event(self, between, at):
        """For each t, the rows behind the first occurrence that lead to it from a standing of the image."""
        formulas = self.formulas
        steps = [(between[(at, to)], v) for to, v in enumerate(self.peel.image) if between[(at, to)] != formulas.no]
        told = []
        for t in range(self.size):
            told.append(formulas.any_of([formulas.joined(one, self.inner[(v, t)]) for one, v in steps]))
        return told

    def all_led(self, order):
        """The sets of all rows."""
        formulas = self.formulas
        between = self.blocks_between(order)
        rests = [self.behind_event(between, at) for at in range(len(self.peel.image))]
        led = {}
        for s in self.peel.starts:
            twos = list(zip([self.up_to_event(s, v) for v in self.peel.image], rests))
            for t in range(self.size):
                onward = formulas.any_of([formulas.joined(one, rest[t]) for one, rest in twos if one != formulas.no])
                led[(s, t)] = formulas.either(self.inner[(s, t)], onward)
        return led


def led_sets(formulas, size, events, whole, starts, order):
    """The sets for some events over so many standings, for the starts and all standings."""
    hard, ends = parted_events(formulas, events, order)
    peels, last = peels_of(hard, ends, size, starts)
    wholes = []
    for peel in peels:
        wholes.append(whole)
        whole = formulas.lacking(whole, peel.part)
    led = {(s, t): end_set(formulas, ends, whole, s, t) for s in last for t in range(size)}
    for at in range(len(peels) - 1, -1, -1):
        led = SetLevel(formulas, size, peels[at], wholes[at], led).all_led(order)
    return led


def leading_sets(formulas, alphabet, reader, order):
    """For each standing of a reader, the set of the rows that lead to it."""
    led = led_sets(formulas, len(reader), letter_events(formulas, alphabet, reader), formulas.yes, [0], order)
    return [led[(0, standing)] for standing in range(len(reader))]
