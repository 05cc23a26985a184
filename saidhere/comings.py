"""First comings: the different letters of a row, in the order in which they first come."""

from saidhere.formulas import Formulas


def come_first(letters, letter):
    """The first comings of a row with a letter put ahead of it, from those of the row."""
    return letter + letters.replace(letter, "")


def comings_reader(alphabet):
    """All first comings, and the moves that a letter put ahead of a row makes between them."""
    found = [""]
    numbers = {"": 0}
    moves = []
    while len(moves) < len(found):
        move = []
        for letter in alphabet:
            after = come_first(found[len(moves)], letter)
            if after not in numbers:
                numbers[after] = len(found)
                found.append(after)
            move.append(numbers[after])
        moves.append(tuple(move))
    return found, tuple(moves)


class Comings(Formulas):
    """Tense parts of height 1 that tell the first comings of rows behind, or of the reversed rows ahead."""

    def __init__(self, alphabet):
        Formulas.__init__(self, ("no",), ("yes",))
        self.alphabet = alphabet

    def comes(self, word, letters, letter):
        """That a letter comes, and until then these letters alone."""
        way = self.any_of([self.made(("letter", other)) for other in sorted(letters)])
        return self.made((word, way, self.made(("letter", letter))))

    def coming(self, word, letters):
        """That the first comings are these letters; the word is `until` or `since`."""
        found = self.yes
        for at, letter in enumerate(letters):
            found = self.both(found, self.comes(word, letters[:at], letter))
        others = [letter for letter in self.alphabet if letter not in letters]
        never = [self.negated(self.made((word, self.yes, self.made(("letter", x))))) for x in others]
        return self.both(found, self.all_of(never))
