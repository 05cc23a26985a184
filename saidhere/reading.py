"""Texts are read: word by word, each part being listed when it has been read to its end."""

from saidhere.errors import BadText
from saidhere.grammar import BINARY, MOST_OPEN, least_left, level_of
from saidhere.named import BINDING
from saidhere.plain import is_letter
from saidhere.sheets import NAMES

WORD_LETTERS = "abcdefghijklmnopqrstuvwxyz"
SIGNS = {"<": "less", "=": "same"}


def word_at(text, at):
    """The word that begins at this index, as long as possible; an empty one if none does."""
    if text[at:at + 1] in SIGNS:
        return text[at]
    end = at
    while end < len(text) and text[end] in WORD_LETTERS:
        end += 1
    return text[at:end]


class Reading:
    """A text as far as it is read.

    Waiting has what is not at its end, the outermost first: brackets `("(",)`, prefix words with
    their names, and joining words. Done has the numbers of the parts that wait for being joined.
    """

    def __init__(self, alphabet, grammar, text):
        self.alphabet = alphabet
        self.joining, self.prefixes, self.singles, self.named = grammar
        self.text = text
        self.at = 0
        self.listed = {}
        self.waiting = []
        self.done = []

    def next_sign(self):
        """The character that comes next, an empty string at the end."""
        return self.text[self.at:self.at + 1]

    def next_word(self):
        """The word that comes next, an empty string if none does."""
        return word_at(self.text, self.at)

    def check(self, good):
        """Raise BadText unless what comes next can stand here."""
        if not good:
            raise BadText(self.at)

    def take_blank(self):
        """Go over a blank."""
        self.check(self.next_sign() == " ")
        self.at += 1

    def take_name(self):
        """Go over a blank and a name."""
        self.take_blank()
        name = self.next_word()
        self.check(is_letter(NAMES, name))
        self.at += 1
        return name

    def check_room(self):
        """Raise BadText if nothing more may be opened."""
        opened = [entry for entry in self.waiting if entry[0] not in BINARY]
        self.check(len(opened) < MOST_OPEN)

    def take_opening(self):
        """Go over a bracket or a prefix word, if one comes next: whether one did."""
        word = self.next_word()
        if self.next_sign() == "(":
            self.check_room()
            self.at += 1
            self.waiting.append(("(",))
            return True
        if word not in self.prefixes:
            return False
        self.check_room()
        self.at += len(word)
        self.waiting.append((word, self.take_name()) if word in BINDING else (word,))
        self.take_blank()
        return True

    def take_single(self):
        """Go over a formula without arguments: its part."""
        word = self.next_word()
        named = self.named and is_letter(NAMES, word)
        self.check(word in self.singles or is_letter(self.alphabet, word) or named)
        self.at += len(word)
        if word in self.singles:
            return (word,)
        if named:
            return self.take_relation(word)
        if not self.named:
            return "letter", word
        self.take_blank()
        self.check(self.next_word() == "at")
        self.at += len("at")
        return "letter", word, self.take_name()

    def take_relation(self, name):
        """Go over what stands behind a name: the part of both names."""
        self.take_blank()
        sign = self.next_word()
        self.check(sign in SIGNS)
        self.at += 1
        return SIGNS[sign], name, self.take_name()

    def take_argument(self):
        """Go over a formula up to where a joining word, a closing bracket or the end can come."""
        while self.take_opening():
            pass
        self.list_part(self.take_single())
        self.end_prefixes()

    def list_part(self, part):
        """List a part that is read to its end."""
        if part not in self.listed:
            self.listed[part] = len(self.listed)
        self.done.append(self.listed[part])

    def end_prefixes(self):
        """List the parts of the prefix words whose argument has just been read."""
        while self.waiting and self.waiting[-1][0] in self.prefixes:
            entry = self.waiting.pop()
            self.list_part(entry + (self.done.pop(),))

    def end_joined(self, least):
        """List the parts of the joining words of this level, or tighter ones, both of whose arguments are read."""
        while self.waiting and least <= BINARY.get(self.waiting[-1][0], 0):
            entry = self.waiting.pop()
            right = self.done.pop()
            self.list_part(entry + (self.done.pop(), right))

    def take_joining(self):
        """Go over a joining word, and the blanks around it."""
        self.take_blank()
        word = self.next_word()
        self.check(word in self.joining)
        self.end_joined(least_left(word))
        self.check(not self.waiting or BINARY.get(self.waiting[-1][0], 0) < level_of(word))
        self.waiting.append((word,))
        self.at += len(word)
        self.take_blank()

    def take_closing(self):
        """Go over a closing bracket."""
        self.end_joined(1)
        self.check(len(self.waiting) > 0)
        self.waiting.pop()
        self.at += 1
        self.end_prefixes()

    def take_whole(self):
        """Read the text to its end: the sheet."""
        self.take_argument()
        while self.at < len(self.text):
            if self.next_sign() == ")":
                self.take_closing()
            else:
                self.take_joining()
                self.take_argument()
        self.end_joined(1)
        self.check(len(self.waiting) == 0)
        return tuple(list(self.listed))


def read_sheet(alphabet, grammar, text):
    """The sheet of a text.

    A grammar has the joining words, the prefix words, the words that are formulas by themselves, and
    whether places are named.
    """
    if not isinstance(text, str):
        raise BadText(-1)
    return Reading(alphabet, grammar, text).take_whole()
