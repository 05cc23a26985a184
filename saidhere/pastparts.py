"""Tense parts that tell to which standing the events up to a place lead ([24]).

For each standing s to begin in, and each standing t, there is a part that holds at a place exactly if the
events at the places behind the last fence, up to the place itself, lead from s to t. Told are dicts of the
numbers of these parts by (s, t). A part that tells the coming of standings is made alike, with the words
of the other direction.
"""

from saidhere.events import letter_events, parted_events, peels_of


def end_part(formulas, ends, fence, s, t):
    """The part for s and t if all events are ends: the last one tells the standing, and s does if there is none."""
    if s == t:
        away = formulas.any_of([part for end, part in ends.items() if end != s])
        return formulas.negated(formulas.kept_from(away, formulas.either(ends.get(s, formulas.no), fence)))
    others = formulas.any_of([part for end, part in ends.items() if end != t])
    return formulas.kept_from(ends.get(t, formulas.no), formulas.either(others, fence))


class PastLevel:
    """An event, the parts for the events that are left, with it for a fence, and what they tell together."""

    def __init__(self, formulas, size, peel, fence, inner):
        self.formulas = formulas
        self.size = size
        self.peel = peel
        self.inner = inner
        self.since = formulas.kept_from(peel.part, fence)
        self.never = formulas.negated(self.since)

    def led_where(self, s, aims):
        """The part that holds where the events that are left lead from s to a standing that the event leads to aims."""
        move = self.peel.move
        return self.formulas.any_of([self.inner[(s, t)] for t in range(self.size) if move[t] in aims])

    def led_to(self, s, v):
        """The part that holds at an event that leads to v what begins in s, also where there is no place before."""
        others = [standing for standing in self.peel.image if standing != v]
        if self.peel.move[s] == v:
            return self.formulas.negated(self.formulas.beside(self.led_where(s, others)))
        return self.formulas.beside(self.led_where(s, [v]))

    def events_behind(self, s):
        """The occurrences of the event as events over its image: the first one behind a fence is an end."""
        formulas = self.formulas
        image = self.peel.image
        earlier = formulas.beside(self.since)
        later = formulas.both(self.peel.part, earlier)
        first = formulas.both(self.peel.part, formulas.negated(earlier))
        events = []
        for at, v in enumerate(image):
            events.append((tuple([at for _ in image]), formulas.both(first, self.led_to(s, v))))
        for move in self.peel.blocks:
            way = formulas.all_of([self.led_to(standing, move[standing]) for standing in image])
            events.append((self.peel.narrowed_map(move), formulas.both(later, way)))
        return events

    def last_standings(self, s, order):
        """For each standing of the image, the part that holds where the last occurrence led to it."""
        events = self.events_behind(s)
        led = led_parts(self.formulas, len(self.peel.image), events, self.formulas.no, [0], order)
        return [led[(0, at)] for at in range(len(self.peel.image))]

    def all_led(self, order):
        """The parts for all events."""
        formulas = self.formulas
        led = {}
        for s in self.peel.starts:
            behind = list(zip(self.peel.image, self.last_standings(s, order)))
            for t in range(self.size):
                onward = formulas.any_of([formulas.both(here, self.inner[(v, t)]) for v, here in behind])
                bare = formulas.both(self.never, self.inner[(s, t)])
                led[(s, t)] = formulas.either(bare, formulas.both(self.since, onward))
        return led


def led_parts(formulas, size, events, fence, starts, order):
    """The parts for some events over so many standings, for the starts and all standings."""
    hard, ends = parted_events(formulas, events, order)
    peels, last = peels_of(hard, ends, size, starts)
    fences = []
    for peel in peels:
        fences.append(fence)
        fence = formulas.either(fence, peel.part)
    led = {(s, t): end_part(formulas, ends, fence, s, t) for s in last for t in range(size)}
    for at in range(len(peels) - 1, -1, -1):
        led = PastLevel(formulas, size, peels[at], fences[at], led).all_led(order)
    return led


def ahead_parts(formulas, alphabet, reader, order):
    """For each standing of a reader, the part that holds where the row ahead leads to it."""
    led = led_parts(formulas, len(reader), letter_events(formulas, alphabet, reader), formulas.no, [0], order)
    told = [formulas.negated(formulas.beside(formulas.negated(led[(0, 0)])))]
    return told + [formulas.beside(led[(0, standing)]) for standing in range(1, len(reader))]
