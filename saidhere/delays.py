"""How many letters later, and from how many letters back, a mark is known; the windows on which it hangs."""

from saidhere.components import components
from saidhere.errors import TooMany
from saidhere.kinds import is_listing
from saidhere.leastpair import followers, least, twos
from saidhere.leastways import least_way
from saidhere.masks import has_bit
from saidhere.pairs import marks_in
from saidhere.pairworks import mirrored
from saidhere.plain import is_long_row
from saidhere.readers import reached_ahead, reached_behind, standings_behind

MOST_WINDOWS = 2000


def colours_of(small):
    """For each right standing of a least pair, what it tells of all places directly ahead."""
    standings = range(len(small.right))
    return [[has_bit(mask, q) for masks in small.masks for mask in masks] for q in standings]


def led_twos(reader, found):
    """The pairs of two different standings, the lesser one first, to which a letter leads some such pairs."""
    led = {}
    for q, s in found:
        for after in followers(reader, q, s):
            if after[0] != after[1]:
                led[after] = True
    return list(led)


def delay_of(small):
    """The delay of a least pair.

    Found has the two standings that rows behind may lead to, if as many letters ahead of these are the same. Two
    different standings of a least reader are led to such as are told apart at once, in the end: so if
    there are always such twos left, the mark is never known.
    """
    colours = colours_of(small)
    found = twos(len(small.right))
    many = 0
    while any([colours[q] != colours[s] for q, s in found]):
        newer = led_twos(small.right, found)
        if len(newer) == len(found):
            return None
        found = list(newer)
        many += 1
    return many


def delay(pair):
    """How many letters later the mark is known, at the least; None if it is not for any number."""
    return delay_of(least(pair))


def reach(pair):
    """From how many letters back the mark is known, at the least; None if it is not for any number."""
    return delay_of(mirrored(pair))


def rows_up_to(alphabet, most):
    """All rows of at most that many letters, from the least on; TooMany if even these are too many windows."""
    rows = [""]
    level = [""]
    for _ in range(most):
        level = [row + letter for row in level for letter in alphabet]
        rows = rows + level
        if len(rows) > MOST_WINDOWS:
            raise TooMany("window")
    return rows


def windows(pair):
    """All windows of the mark, with whether they are marked; None if it does not hang on windows."""
    later, back = delay(pair), reach(pair)
    if later is None or back is None:
        return None
    heads, tails = rows_up_to(pair.alphabet, back), rows_up_to(pair.alphabet, later)
    if len(heads) * len(tails) * len(pair.alphabet) > MOST_WINDOWS:
        raise TooMany("window")
    told = []
    for head in heads:
        for letter in pair.alphabet:
            for tail in tails:
                told.append((head, letter, tail, marks_in(pair, head + letter + tail)[len(head)]))
    return tuple(sorted(told))


def two_steps(reader, found):
    """For each two different standings, the letters that lead to others: (letter, number of the two)."""
    numbers = {two: number for number, two in enumerate(found)}
    steps = []
    for q, s in found:
        followed = list(zip(reader[q], reader[s]))
        steps.append([(letter, numbers[two]) for letter, two in enumerate(followed) if two in numbers])
    return steps


def turning_step(steps):
    """A step from which ways lead back: (node, letter, node); None if there is none."""
    groups = components([[step[1] for step in told] for told in steps])
    inside = {node: number for number, group in enumerate(groups) for node in group}
    for node, told in enumerate(steps):
        for letter, after in told:
            if inside[node] == inside[after]:
                return node, letter, after
    return None


def place_apart(small, q, s):
    """A row ahead and a letter whose place is told otherwise if the row behind leads to q than if it does to s."""
    _, rows, _ = reached_ahead(small.alphabet, (small.left,), None)
    for row, masks in zip(rows, small.masks):
        for letter, mask in zip(small.alphabet, masks):
            if has_bit(mask, q) != has_bit(mask, s):
                return row, letter
    return None


def endless(small):
    """What shows that the delay of a least pair is None; None if it is not.

    Right readers read their rows from the last letter on, so the ways between standings are these, reversed.
    """
    standings = range(len(small.right))
    found = [(q, s) for q in standings for s in standings if q != s]
    steps = two_steps(small.right, found)
    step = turning_step(steps)
    if step is None:
        return None
    node, letter, after = step
    turn = small.alphabet[letter] + least_way(small.alphabet, steps, [after], [node])
    colours = colours_of(small)
    apart = [number for number, (q, s) in enumerate(found) if colours[q] != colours[s]]
    between = least_way(small.alphabet, steps, [node], apart)[::-1]
    things, rows, _ = reached_behind(small.alphabet, (small.right,), None)
    ends = {thing[0]: row for thing, row in zip(things, rows)}
    end, other = [ends[standing] for standing in found[node]]
    ahead, told = place_apart(small, led_right(small, between + end), led_right(small, between + other))
    return ahead, told, between, turn[::-1], end, other


def led_right(small, row):
    """The standing to which a row leads the right reader."""
    return standings_behind(small.alphabet, small.right, small.alphabet[0] + row)[0]


def reversed_rows(shown):
    """The same of the reversed rows, told from its end on."""
    return tuple([row[::-1] for row in shown[::-1]])


def endless_later(pair):
    """What shows that the delay of the mark is None: (u, a, x, y, z, w); None if it is not."""
    return endless(least(pair))


def endless_back(pair):
    """What shows that the reach of the mark is None: (z, w, y, x, a, u); None if it is not."""
    shown = endless(mirrored(pair))
    return None if shown is None else reversed_rows(shown)


def is_shown(small, shown):
    """Whether six strings show for a least pair that its delay is None."""
    ahead, letter, between, turn, end, other = shown
    if not all([is_long_row(small.alphabet, row) for row in shown]) or len(letter) != 1 or turn == "":
        return False
    for row in (end, other):
        if led_right(small, turn + row) != led_right(small, row):
            return False
    told = [marks_in(small, ahead + letter + between + row)[len(ahead)] for row in (end, other)]
    return told[0] != told[1]


def are_strings(thing):
    """Whether the thing is a tuple of six strings."""
    return is_listing(thing) and len(thing) == 6 and all([isinstance(row, str) for row in thing])


def judge_later(pair, shown):
    """Whether what is shown shows that the delay of the mark is None."""
    return are_strings(shown) and is_shown(least(pair), tuple(shown))


def judge_back(pair, shown):
    """Whether what is shown shows that the reach of the mark is None."""
    return are_strings(shown) and is_shown(mirrored(pair), reversed_rows(shown))
