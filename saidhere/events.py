"""Events that lead standings on, as their maps tell: what is the same for places and for plain sets.

An event is a pair of a map and a part. Events that lead each standing to itself do not matter; those that
lead all to one standing are ends. The others are peeled off one by one: behind each of them all that came
before is known by the standings it leads to, which are fewer.
"""


def is_still(move):
    """Whether a map leads each standing to itself."""
    return all([standing == at for at, standing in enumerate(move)])


def image_of(move):
    """The standings to which a map leads, ascending."""
    return sorted(set(list(move)))


def parted_events(formulas, events, order):
    """The events that are neither still nor ends, in the order in which they are peeled, and the ends.

    Events with one map are put together. The order is 1 if smaller images go first, -1 if larger ones do.
    Of the ends the part is told by the standing.
    """
    parts = {}
    for move, part in events:
        if not is_still(move) and part != formulas.no:
            parts[move] = formulas.either(parts.get(move, formulas.no), part)
    hard = [(move, part) for move, part in parts.items() if len(image_of(move)) > 1]
    ends = {move[0]: part for move, part in parts.items() if len(image_of(move)) == 1}
    return sorted(hard, key=lambda event: order * len(image_of(event[0]))), ends


def done_then(first, second):
    """The map of one map done, and then another one."""
    return tuple([second[standing] for standing in first])


def block_maps(moves, last):
    """The maps, each once, of what comes to some events of these maps, and then one with the last map."""
    still = tuple(list(range(len(last))))
    found = [still]
    known = {still: True}
    at = 0
    while at < len(found):
        for move in moves:
            follower = done_then(found[at], move)
            if follower not in known:
                known[follower] = True
                found.append(follower)
        at += 1
    blocks = {done_then(move, last): True for move in found}
    return list(blocks)


class Peel:
    """An event that is peeled off: what it leads to, and which standings and events matter ahead of it."""

    def __init__(self, event, starts, moves):
        self.move = event[0]
        self.part = event[1]
        self.starts = starts
        self.image = image_of(event[0])
        self.blocks = block_maps(moves, event[0])

    def narrowed_map(self, move):
        """A map of a block, told of the image alone, by the numbers of its standings in the image."""
        return tuple([self.image.index(move[standing]) for standing in self.image])


def peels_of(hard, ends, size, starts):
    """The peels of all events that are peeled off, and the standings to begin in that matter behind them.

    The ends lead each of so many standings to one.
    """
    peels = []
    last = sorted(set(list(starts)))
    final = [tuple([end for _ in range(size)]) for end in ends]
    for at, event in enumerate(hard):
        peels.append(Peel(event, last, [move for move, part in hard[at + 1:]] + final))
        last = sorted(set(last + list(event[0])))
    return peels, last


def letter_events(formulas, alphabet, reader):
    """Each letter as an event over the standings of a reader."""
    return [
        (tuple([move[number] for move in reader]), formulas.made(("letter", letter)))
        for number, letter in enumerate(alphabet)
    ]
