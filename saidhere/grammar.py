"""How tightly the words of texts bind, in all three kinds of texts.

A formula has a level: that of its word if it is joined by one of BINARY, PREFIX_LEVEL behind one of
PREFIXES, otherwise SINGLE. An argument of a lower level than is due at its place stands in brackets.
"""

BINARY = {"or": 1, "and": 2, "until": 3, "since": 3, "then": 3}
# These two do not associate: an argument on either side binds more tightly.
LONELY = ("until", "since")
PREFIXES = ("not", "next", "prev", "some", "all")
PREFIX_LEVEL = 4
SINGLE = 5
MOST_OPEN = 30


def level_of(word):
    """The level of a formula with this word."""
    if word in PREFIXES:
        return PREFIX_LEVEL
    return BINARY.get(word, SINGLE)


def least_left(word):
    """The least level that the left argument of a joining word has without brackets."""
    return BINARY[word] + 1 if word in LONELY else BINARY[word]


def least_right(word):
    """The least level that the right argument of a joining word has without brackets."""
    return BINARY[word] + 1
