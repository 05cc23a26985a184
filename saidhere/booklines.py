"""Books as lines: read, written, and taken up from lines that are torn.

A line is taken as a piece: its first word and what its other words and its text tell. The first word tells
what follows it in the line (WORDS) and which words may begin the next line (NEXT).
"""

from saidhere.books import Book
from saidhere.errors import BadLine, BadText, SaidError, TooMany
from saidhere.kinds import is_listing, is_name
from saidhere.namedtext import read_named
from saidhere.plain import is_alphabet, is_letter
from saidhere.readers import MOST_STANDINGS
from saidhere.sayings import saying
from saidhere.settext import read_set
from saidhere.sheets import joined_parts
from saidhere.tensetext import read_tense
from saidhere.writing import text_of

ENTRIES = ("tense", "named", "cuts", "pair")
WORDS = {
    "book": ("alphabet",),
    "tense": ("name", "tense"),
    "named": ("name", "named"),
    "cuts": ("name",),
    "cut": ("letter",),
    "ahead": ("set",),
    "behind": ("set",),
    "pair": ("name",),
    "mark": ("standing", "letter", "standing"),
}
TEXTS = ("tense", "named", "set")
# Behind these words a book may end, and an entry may begin.
ENDS = ("book", "tense", "named", "cuts", "behind", "right", "mark")
NEXT = {
    "": ("book",),
    "cuts": ("cut",),
    "cut": ("ahead",),
    "ahead": ("behind",),
    "behind": ("cut",),
    "pair": ("left",),
    "left": ("left", "right"),
    "right": ("right", "mark"),
    "mark": ("mark",),
}


def standing_of(word):
    """The standing that a word tells, None if it tells none."""
    for standing in range(MOST_STANDINGS):
        if word == str(standing):
            return standing
    return None


def worth_of(alphabet, kind, word):
    """What a word of this kind tells, None if it is not of this kind."""
    if kind == "standing":
        return standing_of(word)
    if kind == "alphabet":
        return word if is_alphabet(word) else None
    if kind == "name":
        return word if is_name(word) else None
    return word if is_letter(alphabet, word) else None


def sheet_of(alphabet, kind, text):
    """The sheet of a text of this kind."""
    if kind == "tense":
        return read_tense(alphabet, text)
    if kind == "named":
        return read_named(alphabet, text)
    return read_set(alphabet, text)


def may_begin(last, word):
    """Whether a line may begin with the word, behind a line that begins with the last word."""
    return word in NEXT.get(last, ()) or (last in ENDS and word in ENTRIES)


def kinds_behind(alphabet, word):
    """The kinds of what stands behind the first word of a line."""
    if word in ("left", "right"):
        return tuple(["standing" for _ in alphabet])
    return WORDS[word]


def piece_of(alphabet, last, number, line):
    """The piece that the line with this number tells, behind a line that begins with the last word."""
    if not isinstance(line, str):
        raise BadLine(number, 0)
    words = line.split(" ")
    if not may_begin(last, words[0]):
        raise BadLine(number, 0)
    kinds = kinds_behind(alphabet, words[0])
    piece = [words[0]]
    for at, kind in enumerate(kinds, start=1):
        if at >= len(words):
            raise BadLine(number, len(words))
        if kind in TEXTS:
            try:
                piece.append(sheet_of(alphabet, kind, " ".join(words[at:])))
            except (BadText, TooMany) as e:
                raise BadLine(number, at) from e
            return tuple(piece)
        worth = worth_of(alphabet, kind, words[at])
        if worth is None:
            raise BadLine(number, at)
        piece.append(worth)
    if len(words) > len(piece):
        raise BadLine(number, len(piece))
    return tuple(piece)


def next_piece(pieces, line):
    """The piece of a line behind those of the lines ahead of it."""
    alphabet = pieces[0][1] if pieces else ""
    last = pieces[-1][0] if pieces else ""
    return piece_of(alphabet, last, len(pieces), line)


def is_whole_book(pieces):
    """Whether a book may end behind these pieces."""
    return len(pieces) > 0 and pieces[-1][0] in ENDS


def groups_of(pieces):
    """The pieces of each entry, in order."""
    groups = []
    for piece in pieces:
        if piece[0] in ENTRIES:
            groups.append([piece])
        else:
            groups[-1].append(piece)
    return groups


def cuts_saying(group):
    """The saying of the pieces of cuts."""
    letters = [piece[1] for piece in group if piece[0] == "cut"]
    sheet, told = joined_parts([piece[1] for piece in group if piece[0] in ("ahead", "behind")])
    if not letters:
        return "cuts", (("none",),), ()
    lasts = [numbers[-1] for numbers in told]
    return "cuts", sheet, tuple(list(zip(lasts[0::2], letters, lasts[1::2])))


def pair_saying(group):
    """The saying of the pieces of a pair."""
    told = [tuple([piece[1:] for piece in group if piece[0] == word]) for word in ("left", "right", "mark")]
    return "pair", told[0], told[1], told[2]


def entry_of(group):
    """The entry that the pieces of one tell."""
    word = group[0][0]
    if word == "cuts":
        return group[0][1], cuts_saying(group)
    if word == "pair":
        return group[0][1], pair_saying(group)
    return group[0][1], (word, group[0][2])


def book_of(pieces):
    """The book that the pieces of all its lines tell."""
    return Book(pieces[0][1], [entry_of(group) for group in groups_of(pieces[1:])])


def read_book(lines):
    """The book that the lines tell."""
    if not is_listing(lines):
        raise BadLine(-1, 0)
    pieces = []
    for line in lines:
        pieces.append(next_piece(pieces, line))
    if not is_whole_book(pieces):
        raise BadLine(len(lines), 0)
    return book_of(pieces)


def pieces_ahead(lines):
    """The pieces of the lines ahead of the first one that is bad; none if they are no lines at all."""
    pieces = []
    for line in lines if is_listing(lines) else ():
        try:
            piece = next_piece(pieces, line)
        except BadLine:
            return pieces
        pieces.append(piece)
    return pieces


def is_good_entry(alphabet, group):
    """Whether the pieces of an entry tell a saying without an error."""
    try:
        saying(alphabet, entry_of(group)[1])
    except SaidError:
        return False
    return True


def pieces_to_bad(pieces):
    """The pieces up to the end of the first entry that is bad as a whole: no book goes on behind it."""
    number = 1
    for group in groups_of(pieces[1:]):
        number = number + len(group)
        if not is_good_entry(pieces[0][1], group):
            break
    return pieces[:number]


def is_well_ended(pieces):
    """Whether a book may end behind these pieces, the last entry being good as it is."""
    if not is_whole_book(pieces):
        return False
    groups = groups_of(pieces[1:])
    return not groups or is_good_entry(pieces[0][1], groups[-1])


def taken_up(lines):
    """The book of the longest beginning of the lines that can be read, with the number of its lines.

    All entries are looked at once ahead of that, and then the last one alone, so that a long book whose
    end is bad is not made again for each of its lines.
    """
    pieces = pieces_to_bad(pieces_ahead(lines))
    for number in range(len(pieces), 0, -1):
        if is_well_ended(pieces[:number]):
            try:
                return book_of(pieces[:number]), number
            except SaidError:
                pass
    return None


def cut_text(sheet, number):
    """The text of the part of a set sheet with this number."""
    return text_of(sheet[:number + 1])


def each_line(name, thing):
    """The lines of an entry, one by one."""
    if thing[0] in TEXTS:
        yield f"{thing[0]} {name} {text_of(thing[1])}"
        return
    yield f"{thing[0]} {name}"
    if thing[0] == "cuts":
        for i, letter, j in thing[2]:
            yield f"cut {letter}"
            yield f"ahead {cut_text(thing[1], i)}"
            yield f"behind {cut_text(thing[1], j)}"
        return
    for side, reader in (("left", thing[1]), ("right", thing[2])):
        for move in reader:
            yield " ".join([side] + [str(standing) for standing in move])
    for p, letter, q in thing[3]:
        yield f"mark {p} {letter} {q}"


def write_book(book):
    """The lines of a book, one by one."""
    yield f"book {book.alphabet}"
    for name, thing in book.entries:
        for line in each_line(name, thing):
            yield line
