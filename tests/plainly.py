"""Plain readings by definition, to test the program against, and things to test it with.

Nothing here uses the package except for the errors' and classes' names in the tests themselves.
"""

import random


def rows(alphabet, most, least=0):
    """All rows with least to most letters, from the least on."""
    level = [""]
    told = [] if least else [""]
    for length in range(1, most + 1):
        level = [row + letter for row in level for letter in alphabet]
        if length >= least:
            told += level
    return told


def placed(alphabet, most):
    """All placed rows whose rows have at most that many letters, from the least on."""
    return [(row, place) for row in rows(alphabet, most) for place in range(len(row))]


def led(alphabet, moves, letters):
    """The standing to which these letters, in this order, lead a reader."""
    standing = 0
    for letter in letters:
        standing = moves[standing][alphabet.index(letter)]
    return standing


def at_place(machine, row, place):
    """The standings and the letter at a place: (p, letter, q)."""
    alphabet, left, right = machine
    ahead, behind = row[:place], row[place + 1:]
    return led(alphabet, left, ahead), row[place], led(alphabet, right, reversed(behind))


def pair_marks(pair, row):
    """The marks of a pair in a row."""
    machine = (pair.alphabet, pair.left, pair.right)
    return tuple(at_place(machine, row, place) in pair.marked for place in range(len(row)))


def layer_row(layer, row):
    """The row to which a layer leads a row."""
    machine = (layer.alphabet, layer.left, layer.right)
    made = ""
    for place in range(len(row)):
        p, letter, q = at_place(machine, row, place)
        made += layer.told[p][layer.alphabet.index(letter)][q]
    return made


def classes(alphabet, telling, side, most, further):
    """The classes of rows alike ahead (behind): the least rows, and what leads to what.

    telling(row) has one thing for each place. Rows of at most `most` letters are looked at, within rows
    of at most `further` letters more. Told are the least rows of the classes, ascending, and for each of
    them the numbers of the classes to which one letter more leads (a row that is too long: None).
    """
    experiments = rows(alphabet, further)

    def signature(row):
        if side == "left":
            return tuple(telling(row + other)[len(row):] for other in experiments)
        return tuple(telling(other + row)[:len(other)] for other in experiments)

    number = {}
    leasts = []
    for row in rows(alphabet, most):
        told = signature(row)
        if told not in number:
            number[told] = len(leasts)
            leasts.append(row)

    def after(row, letter):
        return number.get(signature(row + letter if side == "left" else letter + row))

    return leasts, tuple(tuple(after(row, letter) for letter in alphabet) for row in leasts)


def table(alphabet, telling, most, further):
    """The least machine by definition: left moves, right moves, and for each standing, letter and standing
    what is told there."""
    heads, left = classes(alphabet, telling, "left", most, further)
    tails, right = classes(alphabet, telling, "right", most, further)
    told = tuple(
        tuple(tuple(telling(u + a + w)[len(u)] for w in tails) for a in alphabet) for u in heads
    )
    return left, right, told


def marked_of(alphabet, told):
    """The triples of a table of True and False."""
    return tuple(
        (p, letter, q)
        for p, items in enumerate(told)
        for letter, row in zip(alphabet, items)
        for q, holds in enumerate(row)
        if holds
    )


def random_moves(source, letters, standings):
    """Moves of a reader by chance."""
    return tuple(tuple(source.randrange(standings) for _ in range(letters)) for _ in range(standings))


def random_pair_parts(source, alphabet, most):
    """The arguments of a pair by chance, with at most so many standings on a side."""
    p, q = source.randint(1, most), source.randint(1, most)
    share = source.choice((0.2, 0.5, 0.8))
    marked = tuple(
        (x, letter, y) for x in range(p) for letter in alphabet for y in range(q) if source.random() < share
    )
    return alphabet, random_moves(source, len(alphabet), p), random_moves(source, len(alphabet), q), marked


def random_layer_parts(source, alphabet, target, most):
    """The arguments of a layer by chance, with at most so many standings on a side."""
    p, q = source.randint(1, most), source.randint(1, most)
    letters = target if source.random() < 0.7 else target[0] * 4 + target
    told = tuple(
        tuple(tuple(source.choice(letters) for _ in range(q)) for _ in alphabet) for _ in range(p)
    )
    left, right = random_moves(source, len(alphabet), p), random_moves(source, len(alphabet), q)
    return alphabet, target, left, right, told


def chance(number):
    """A source of chance that is the same each time."""
    return random.Random(number)


def counter(letters, many, counted=(0,)):
    """Moves that count the letters with these numbers modulo many."""
    return tuple(
        tuple((standing + 1) % many if letter in counted else standing for letter in range(letters))
        for standing in range(many)
    )


def tense_holds(sheet, row, number, place):
    """Whether a part of a tense sheet holds at a place of a row, word for word."""
    word, *rest = sheet[number]

    def holds(part, at):
        return tense_holds(sheet, row, part, at)

    after, before = range(place + 1, len(row)), range(place)
    if word in ("yes", "no"):
        return word == "yes"
    if word == "letter":
        return row[place] == rest[0]
    if word == "not":
        return not holds(rest[0], place)
    if word == "and":
        return holds(rest[0], place) and holds(rest[1], place)
    if word == "or":
        return holds(rest[0], place) or holds(rest[1], place)
    if word == "next":
        return place + 1 < len(row) and holds(rest[0], place + 1)
    if word == "prev":
        return place > 0 and holds(rest[0], place - 1)
    if word == "until":
        return any(
            holds(rest[1], m) and all(holds(rest[0], n) for n in range(place + 1, m)) for m in after
        )
    return any(holds(rest[1], m) and all(holds(rest[0], n) for n in range(m + 1, place)) for m in before)


def named_holds(sheet, row, number, places):
    """Whether a part of a named sheet holds in a row with these places, word for word."""
    word, *rest = sheet[number]

    def holds(part, told):
        return named_holds(sheet, row, part, told)

    if word in ("yes", "no"):
        return word == "yes"
    if word == "letter":
        return row[places[rest[1]]] == rest[0]
    if word == "less":
        return places[rest[0]] < places[rest[1]]
    if word == "same":
        return places[rest[0]] == places[rest[1]]
    if word == "not":
        return not holds(rest[0], places)
    if word == "and":
        return holds(rest[0], places) and holds(rest[1], places)
    if word == "or":
        return holds(rest[0], places) or holds(rest[1], places)
    each = [holds(rest[1], {**places, rest[0]: place}) for place in range(len(row))]
    return any(each) if word == "some" else all(each)


def random_sheet(source, alphabet, forms, many, names="xyz"):
    """A sheet by chance; forms has pairs of a word and the kinds of the things behind it."""
    sheet = []
    while len(sheet) < many:
        word, kinds = source.choice(forms)
        if "part" in kinds and not sheet:
            continue
        choices = {"part": range(len(sheet)), "letter": alphabet, "name": names}
        sheet.append((word, *(source.choice(choices[kind]) for kind in kinds)))
    return tuple(sheet)


TENSE_FORMS = (
    ("yes", ()), ("no", ()), ("letter", ("letter",)), ("not", ("part",)), ("and", ("part", "part")),
    ("or", ("part", "part")), ("next", ("part",)), ("prev", ("part",)), ("until", ("part", "part")),
    ("since", ("part", "part")),
)
NAMED_FORMS = (
    ("yes", ()), ("no", ()), ("not", ("part",)), ("and", ("part", "part")), ("or", ("part", "part")),
    ("letter", ("letter", "name")), ("less", ("name", "name")), ("same", ("name", "name")),
    ("some", ("name", "part")), ("all", ("name", "part")),
)


def as_lists(thing):
    """The same with a list in the place of each tuple, at any depth."""
    return [as_lists(item) for item in thing] if isinstance(thing, (tuple, list)) else thing


def is_tuples(thing):
    """Whether there is no list at any depth."""
    return not isinstance(thing, list) and (
        not isinstance(thing, tuple) or all(is_tuples(item) for item in thing)
    )


SET_FORMS = (
    ("none", ()), ("empty", ()), ("letter", ("letter",)), ("not", ("part",)), ("and", ("part", "part")),
    ("or", ("part", "part")), ("then", ("part", "part")),
)


def set_holds(sheet, row, number):
    """Whether a part of a set sheet has the row, word for word."""
    word, *rest = sheet[number]
    if word in ("none", "empty"):
        return word == "empty" and row == ""
    if word == "letter":
        return row == rest[0]
    if word == "not":
        return not set_holds(sheet, row, rest[0])
    if word == "then":
        cuts = range(len(row) + 1)
        return any(set_holds(sheet, row[:k], rest[0]) and set_holds(sheet, row[k:], rest[1]) for k in cuts)
    both = [set_holds(sheet, row, part) for part in rest]
    return all(both) if word == "and" else any(both)


def cut_holds(sheet, cuts, row, place):
    """Whether at least one cut applies at the place."""
    return any(
        row[place] == a and set_holds(sheet, row[:place], i) and set_holds(sheet, row[place + 1:], j)
        for i, a, j in cuts
    )


def tree(sheet, number):
    """A part with the parts that it refers to in it, in the place of their numbers."""
    return tuple(tree(sheet, thing) if isinstance(thing, int) else thing for thing in sheet[number])


def tidy(sheet):
    """The tidy sheet: the different trees in the last one, each behind those within it, from the left on."""
    listed = []

    def visit(one):
        for thing in one:
            if isinstance(thing, tuple):
                visit(thing)
        if one not in listed:
            listed.append(one)

    visit(tree(sheet, len(sheet) - 1))
    return tuple(
        tuple(listed.index(thing) if isinstance(thing, tuple) else thing for thing in one) for one in listed
    )


def bracketed(one):
    """The text of a tree with brackets around each formula within another one, but for single words."""
    word, *rest = one

    def inner(thing):
        text = bracketed(thing)
        return f"({text})" if any(isinstance(x, tuple) for x in thing) else text

    if word == "letter":
        return " at ".join(rest)
    if word in ("less", "same"):
        return f"{rest[0]} {'<' if word == 'less' else '='} {rest[1]}"
    if word in ("or", "and", "until", "since", "then"):
        return f"{inner(rest[0])} {word} {inner(rest[1])}"
    if word in ("some", "all"):
        return f"{word} {rest[0]} {inner(rest[1])}"
    return f"{word} {inner(rest[0])}" if rest else word


# The rules of the texts, as [8] and [9] tell them; each line is one way, " " stands for a blank.
LETTER_RULES = {"letter": [["a"], ["b"]], "name": [[name] for name in "uvwxyz"]}
TENSE_RULES = {
    "F": [["G", "ors"]], "ors": [[], [" ", "or", " ", "G", "ors"]],
    "G": [["H", "ands"]], "ands": [[], [" ", "and", " ", "H", "ands"]],
    "H": [["P"], ["P", " ", "until", " ", "P"], ["P", " ", "since", " ", "P"]],
    "P": [["A"], ["not", " ", "P"], ["next", " ", "P"], ["prev", " ", "P"]],
    "A": [["yes"], ["no"], ["letter"], ["(", "F", ")"]], **LETTER_RULES,
}
NAMED_RULES = {
    "F": [["G", "ors"]], "ors": [[], [" ", "or", " ", "G", "ors"]],
    "G": [["P", "ands"]], "ands": [[], [" ", "and", " ", "P", "ands"]],
    "P": [["A"], ["not", " ", "P"], ["some", " ", "name", " ", "P"], ["all", " ", "name", " ", "P"]],
    "A": [
        ["yes"], ["no"], ["letter", " ", "at", " ", "name"], ["name", " ", "<", " ", "name"],
        ["name", " ", "=", " ", "name"], ["(", "F", ")"],
    ], **LETTER_RULES,
}
SET_RULES = {
    "F": [["G", "ors"]], "ors": [[], [" ", "or", " ", "G", "ors"]],
    "G": [["H", "ands"]], "ands": [[], [" ", "and", " ", "H", "ands"]],
    "H": [["P", "thens"]], "thens": [[], [" ", "then", " ", "P", "thens"]],
    "P": [["A"], ["not", " ", "P"]],
    "A": [["none"], ["empty"], ["letter"], ["(", "F", ")"]], **LETTER_RULES,
}


def units(text):
    """The words of a text, as long as possible, and its other characters."""
    told = []
    for at, sign in enumerate(text):
        letter = "a" <= sign <= "z"
        if letter and at > 0 and "a" <= text[at - 1] <= "z":
            told[-1] += sign
        else:
            told.append(sign)
    return told


def bad_at(rules, text):
    """Where a text is bad, by trying all ways of the rules; None if it is good."""

    def opened(stacks):
        found = set()
        while stacks:
            stack = stacks.pop()
            if stack and stack[0] in rules:
                stacks += [tuple(way) + stack[1:] for way in rules[stack[0]]]
            else:
                found.add(stack)
        return found

    stacks = opened([("F",)])
    at = 0
    for unit in units(text):
        stacks = opened([stack[1:] for stack in stacks if stack and stack[0] == unit])
        if not stacks:
            return at
        at += len(unit)
    return None if () in stacks else len(text)


def flag_letter(alphabet, names, letter, borne):
    """The number of a flagged letter, word for word."""
    return alphabet.index(letter) * 2 ** len(names) + sum(2 ** j for j, name in enumerate(names) if name in borne)


def flag_accepts(reader, row, flags):
    """Whether a flag reader accepts a row whose places bear these names, one collection for each place."""
    standing = 0
    for letter, borne in zip(row, flags):
        standing = reader.moves[standing][flag_letter(reader.alphabet, reader.names, letter, borne)]
    return standing in reader.accepted


def flagged_rows(alphabet, names, most):
    """All flagged rows with at most so many places, from the least on: tuples of (letter, borne names)."""
    letters = [
        (letter, tuple(name for j, name in enumerate(names) if bits >> j & 1))
        for letter in alphabet for bits in range(2 ** len(names))
    ]
    level = [()]
    told = [()]
    for _ in range(most):
        level = [row + (letter,) for row in level for letter in letters]
        told += level
    return told


def is_proper(names, flagged):
    """Whether each name stands at exactly one place."""
    borne = [name for _, some in flagged for name in some]
    return all(borne.count(name) == 1 for name in names)


def places_of(names, flagged):
    """The places of the names of a proper flagged row, in their order."""
    return tuple(next(k for k, (_, some) in enumerate(flagged) if name in some) for name in names)


def reader_takes(reader, flagged):
    """Whether a flag reader accepts a flagged row."""
    return flag_accepts(reader, [letter for letter, _ in flagged], [some for _, some in flagged])


def least_flag_reader(alphabet, names, accepts, most, further):
    """The moves and the accepted standings of the least reader of a set of flagged rows, by definition.

    accepts(flagged) tells the set; rows of at most `most` places are told apart by at most `further` more.
    """
    rests = flagged_rows(alphabet, names, further)
    letters = flagged_rows(alphabet, names, 1)[1:]

    def signature(flagged):
        return tuple(accepts(flagged + rest) for rest in rests)

    number = {}
    leasts = []
    for flagged in flagged_rows(alphabet, names, most):
        told = signature(flagged)
        if told not in number:
            number[told] = len(leasts)
            leasts.append(flagged)
    moves = tuple(tuple(number.get(signature(row + letter)) for letter in letters) for row in leasts)
    return moves, tuple(k for k, row in enumerate(leasts) if accepts(row))


def maps_of_moves(moves, most=400):
    """All maps of the rows that a reader reads, up to so many."""
    letters = range(len(moves[0]))
    found = [tuple(range(len(moves)))]
    for item in found:
        if len(found) > most:
            break
        for k in letters:
            after = tuple(moves[standing][k] for standing in item)
            if after not in found:
                found.append(after)
    return found


def map_turns(item):
    """Whether some standing is led back not at once, but after some times."""
    for standing in range(len(item)):
        at, many = item[standing], 1
        while at != standing and many <= len(item):
            at, many = item[at], many + 1
        if at == standing and many > 1:
            return True
    return False


def steady_moves(source, letters, standings):
    """Moves by chance of a reader all of whose standings are met, and none of whose maps turns."""
    while True:
        moves = random_moves(source, letters, standings)
        met = [0]
        for standing in met:
            met += [s for s in dict.fromkeys(moves[standing]) if s not in met]
        if len(met) == standings and not any(map_turns(item) for item in maps_of_moves(moves)):
            return moves


def steady_pair_parts(source, alphabet, left, right):
    """The arguments of a pair by chance, with so many standings a side, neither of which turns."""
    marked = tuple(
        (p, letter, q) for p in range(left) for letter in alphabet for q in range(right) if source.random() < 0.5
    )
    letters = len(alphabet)
    return alphabet, steady_moves(source, letters, left), steady_moves(source, letters, right), marked
