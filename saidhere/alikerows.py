"""Two rows that are alike through a glass, read side by side: the least ones a place of which is marked in the
first row by one pair, and not marked in the other row by another pair.
"""

from saidhere.masks import bits_of, has_bit, lowest, mask_of, spread


def item_steps(readers, like, item):
    """The items to which two letters that are seen alike lead two readers: (letter of the first row, item)."""
    one, other = readers
    return [
        (letter, (one[item[0]][letter], other[item[1]][twin]))
        for letter, twins in enumerate(like)
        for twin in twins
    ]


def leasts_by_items(alphabet, readers, like, side):
    """The items of two readers to which two rows alike lead them, with the least first rows, from the least on."""
    found = {(0, 0): ""}
    level = [("", (0, 0))]
    told = []
    while level:
        told = told + level
        newer = {}
        for row, item in level:
            for letter, after in item_steps(readers, like, item):
                longer = row + alphabet[letter] if side == "left" else alphabet[letter] + row
                if after not in found:
                    newer[after] = min(newer.get(after, longer), longer)
        for item, row in newer.items():
            found[item] = row
        level = sorted([(row, item) for item, row in newer.items()])
    return told


def least_parting(first, second, like):
    """The least placed row that the first pair marks, while the second one does not mark the place in some row
    alike; None if there is none.
    """
    behind = leasts_by_items(first.alphabet, (first.right, second.right), like, "right")
    whole = (1 << len(behind)) - 1
    marked = spread(first.masks, [item[0] for row, item in behind])
    others = spread(second.masks, [item[1] for row, item in behind])
    found = []
    for row, (p, o) in leasts_by_items(first.alphabet, (first.left, second.left), like, "left"):
        for letter, twins in enumerate(like):
            for twin in twins:
                ends = marked[p][letter] & (whole ^ others[o][twin])
                if ends:
                    found.append((row + first.alphabet[letter] + behind[lowest(ends)][0], len(row)))
    return min(found, key=lambda placed: (len(placed[0]), placed), default=None)


def led_masks(reader, like, numbers):
    """For each spot, the mask of the standings to which rows alike lead a reader, from its beginning on."""
    masks = [1]
    for number in numbers:
        led = [reader[standing][twin] for standing in bits_of(masks[-1]) for twin in like[number]]
        masks.append(mask_of([standing in led for standing in range(len(reader))]))
    return masks


def unmarked(second, like, standing, number, ends):
    """For each letter alike, the mask of the right standings, of some, with which a place is not marked."""
    return [(twin, ends & ~second.masks[standing][twin]) for twin in like[number]]


def hopeful(second, like, numbers, ends):
    """For each spot ahead of a place, the left standings from which the place may come to be not marked.

    Numbers has the letters up to the place, which is the last one of them.
    """
    standings = range(len(second.left))
    masks = [mask_of([any([x[1] for x in unmarked(second, like, p, numbers[-1], ends)]) for p in standings])]
    for number in numbers[-2::-1]:
        good = masks[-1]
        masks.append(mask_of([any([has_bit(good, second.left[p][x]) for x in like[number]]) for p in standings]))
    return masks[::-1]


def least_twin_behind(second, like, numbers, behind, wanted):
    """The least letters alike to some that lead the right reader to one of the standings wanted."""
    told = []
    for at, number in enumerate(numbers):
        for twin in like[number]:
            ahead = [has_bit(wanted, move[twin]) for move in second.right]
            fitting = mask_of(ahead) & behind[at + 1]
            if fitting:
                told.append(twin)
                wanted = fitting
                break
    return told


def least_unmarked(second, like, row, place):
    """The least row alike to a row in which the second pair does not mark the place."""
    numbers = [second.alphabet.find(letter) for letter in row]
    rest = numbers[place + 1:]
    behind = led_masks(second.right, like, rest[::-1])[::-1]
    hopes = hopeful(second, like, numbers[:place + 1], behind[0])
    standing = 0
    told = []
    for at in range(place):
        good = [x for x in like[numbers[at]] if has_bit(hopes[at + 1], second.left[standing][x])]
        told.append(good[0])
        standing = second.left[standing][good[0]]
    twin, wanted = [x for x in unmarked(second, like, standing, numbers[place], behind[0]) if x[1]][0]
    told = told + [twin] + least_twin_behind(second, like, rest, behind, wanted)
    return "".join([second.alphabet[number] for number in told])
