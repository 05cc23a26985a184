"""Texts are written: with as few brackets as can be."""

from saidhere.errors import TooLong, TooMany
from saidhere.grammar import BINARY, MOST_OPEN, PREFIX_LEVEL, PREFIXES, least_left, least_right, level_of
from saidhere.sheets import tidied

MOST_CHARACTERS = 2000
SIGNS = {"less": "<", "same": "="}


def single_text(part):
    """The text of a part that refers to none."""
    word = part[0]
    if word in SIGNS:
        return f"{part[1]} {SIGNS[word]} {part[2]}"
    return " at ".join(part[1:]) if word == "letter" else word


def pieces_of(part):
    """What a part is written as: strings, and pairs of the number of a part and its least level."""
    word = part[0]
    if word in BINARY:
        return [(part[1], least_left(word)), f" {word} ", (part[2], least_right(word))]
    if word in PREFIXES:
        return ["".join([f"{thing} " for thing in part[:-1]]), (part[-1], PREFIX_LEVEL)]
    return [single_text(part)]


class Written:
    """A part as it is written: its level, its number of characters, and how many openings are open in it."""

    def __init__(self, level, size, opened):
        self.level = level
        self.size = size
        self.opened = opened


def measured(part, ahead):
    """How a part is written, from how those ahead of it are."""
    size = 0
    opened = 0
    for piece in pieces_of(part):
        if isinstance(piece, str):
            size += len(piece)
        else:
            inner = ahead[piece[0]]
            brackets = 1 if inner.level < piece[1] else 0
            size = size + inner.size + 2 * brackets
            opened = max(opened, inner.opened + brackets)
    if part[0] in PREFIXES:
        opened = opened + 1
    return Written(level_of(part[0]), size, opened)


def joined_text(part, ahead, texts):
    """The text of a part, from the texts of those ahead of it."""
    words = []
    for piece in pieces_of(part):
        if isinstance(piece, str):
            words.append(piece)
        elif ahead[piece[0]].level < piece[1]:
            words.append("(" + texts[piece[0]] + ")")
        else:
            words.append(texts[piece[0]])
    return "".join(words)


def text_of(kept):
    """The text of a kept sheet.

    A part to which others refer several times is written several times: so texts are measured ahead of
    being written.
    """
    parts = tidied(kept, len(kept) - 1)
    ahead = []
    for part in parts:
        ahead.append(measured(part, ahead))
    if ahead[-1].size > MOST_CHARACTERS:
        raise TooLong(ahead[-1].size)
    if ahead[-1].opened > MOST_OPEN:
        raise TooMany("bracket")
    texts = []
    for part in parts:
        texts.append(joined_text(part, ahead, texts))
    return texts[-1]
