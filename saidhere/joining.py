"""What two layers that are joined do together, told by machines: tuples of a left reader, a right reader,
and told, which has for each left standing, letter and right standing the number of a target letter.

The first layer is called one: its standings are p (left) and q (right). The other one, whose rows are
those that the first one makes, has the standings x (left) and s (right). To which x a row ahead leads
hangs on the row behind, too, by its q alone: so a row ahead stands for its p and, for each q, an x. Of
these there may be very many. But two of them with one p are alike ahead exactly if for each q the seams
(p, q, x) are alike: the classes of seams are found by parting, as those of standings are. So there are at
most as many different ones as there are p, times the classes of rows alike ahead.
"""

from saidhere.machines import refined
from saidhere.masks import mask_of
from saidhere.readers import MOST_STANDINGS, check_most


def mirrored_machine(machine):
    """The machine that does with the reversed rows what this one does with the rows."""
    left, right, told = machine
    letters = range(len(left[0]))
    turned = [[[items[k][q] for items in told] for k in letters] for q in range(len(right))]
    return right, left, turned


def feeders(reader):
    """For each standing, the letters and standings from which it is reached: pairs (letter, standing)."""
    found = [[] for _ in reader]
    for standing, move in enumerate(reader):
        for letter, follower in enumerate(move):
            found[follower].append((letter, standing))
    return found


def seams_after(one, other, fed, seam):
    """The seams that can follow a seam, in an order that is the same for all seams with one q."""
    p, q, x = seam
    return [(one[0][p][k], r, other[0][x][one[2][p][k][r]]) for k, r in fed[q]]


def seams_met(one, other):
    """All seams (p, q, x) such that some row leads to p, and to x with a row behind it that leads to q."""
    fed = feeders(one[1])
    seams = [(0, q, 0) for q in range(len(one[1]))]
    met = {seam: True for seam in seams}
    at = 0
    while at < len(seams):
        after = seams_after(one, other, fed, seams[at])
        for seam in after:
            if seam not in met:
                met[seam] = True
                seams.append(seam)
        at += 1
    return seams


def masks_behind(one, other):
    """For each p and q, the mask of all s to which rows lead whose q it is, with a row ahead that leads to p."""
    found = {}
    for q, p, s in seams_met(mirrored_machine(one), mirrored_machine(other)):
        found[(p, q)] = found.get((p, q), 0) | (1 << s)
    return found


def answer_masks(told, targets):
    """For each left standing and letter, the mask of the right standings for each target letter."""
    return [
        [tuple([mask_of([x == t for x in row]) for t in range(targets)]) for row in items] for items in told
    ]


def seam_colour(one, answers, live, fed, seam):
    """What a seam tells of the next place: the answers of the other layer that can be met."""
    p, q, x = seam
    shown = []
    for k, r in fed[q]:
        masks = answers[x][one[2][p][k][r]]
        shown.append(tuple([mask & live[(one[0][p][k], r)] for mask in masks]))
    return p, q, tuple(shown)


def seam_classes(one, other, targets):
    """The class of each seam: those of one p and q from which all that can be told is the same."""
    seams = seams_met(one, other)
    numbers = {seam: at for at, seam in enumerate(seams)}
    fed = feeders(one[1])
    live = masks_behind(one, other)
    answers = answer_masks(other[2], targets)
    moves = [[numbers[after] for after in seams_after(one, other, fed, seam)] for seam in seams]
    colours = [seam_colour(one, answers, live, fed, seam) for seam in seams]
    return dict(zip(seams, refined(moves, colours, None)))


def begun(one):
    """What the empty row stands for: its p, and its x for each q."""
    return 0, tuple([0 for _ in one[1]])


def gone_on(one, other, stand, letter):
    """What a row stands for that has one letter more."""
    p, xs = stand
    told = one[2][p][letter]
    followers = [other[0][xs[move[letter]]][told[q]] for q, move in enumerate(one[1])]
    return one[0][p][letter], tuple(followers)


def stand_key(classes, stand):
    """The same for two rows with one p exactly if they are alike ahead."""
    p, xs = stand
    return p, tuple([classes[(p, q, x)] for q, x in enumerate(xs)])


def stands(one, other, targets):
    """What rows ahead stand for, one for each key, and the moves between them."""
    classes = seam_classes(one, other, targets)
    found = [begun(one)]
    keys = {stand_key(classes, found[0]): 0}
    moves = []
    at = 0
    while at < len(found):
        move = []
        for letter in range(len(one[0][0])):
            after = gone_on(one, other, found[at], letter)
            key = stand_key(classes, after)
            if key not in keys:
                keys[key] = len(found)
                found.append(after)
                check_most(len(found), MOST_STANDINGS * len(one[0]))
            move.append(keys[key])
        moves.append(tuple(move))
        at += 1
    return found, moves


def told_at(one, other, stand, letter, end):
    """What is told at a place by what the row ahead and the row behind stand for."""
    p, xs = stand
    q, ends = end
    x = xs[one[1][q][letter]]
    return other[2][x][one[2][p][letter][q]][ends[one[0][p][letter]]]


def stand_masks(one, other, targets, stand, ends):
    """For each letter and each target letter, the mask of the ends with which it is told."""
    masks = []
    for letter in range(len(one[0][0])):
        told = [told_at(one, other, stand, letter, end) for end in ends]
        masks = masks + [mask_of([x == target for x in told]) for target in range(targets)]
    return tuple(masks)


def joined_machine(one, other, targets):
    """A left reader, a right reader and a table of masks for what two machines do, one behind the other."""
    begins, left = stands(one, other, targets)
    ends, right = stands(mirrored_machine(one), mirrored_machine(other), targets)
    return left, right, [stand_masks(one, other, targets, begin, ends) for begin in begins]
