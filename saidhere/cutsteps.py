"""The machine of cuts: it accepts the rows with x at a place at which a cut applies."""

from saidhere.flagmachines import DEAD


class CutStands:
    """Stands of cuts over readers of plain sets, as rows with the name x lead to them.

    Ahead of x a stand is ("ahead", standings) with a standing of each reader that cuts ask about the row
    ahead. Behind x it is ("behind", pairs) with the readers that are asked about the row behind, as the cuts
    tell whose row ahead and letter came, and their standings.
    """

    def __init__(self, alphabet, readers, cuts):
        self.alphabet = alphabet
        self.width = 2 * len(alphabet)
        self.readers = readers
        self.cuts = cuts
        self.asked = sorted(set([i for i, letter, j in cuts]))
        self.begin = ("ahead", tuple([0 for _ in self.asked]))

    def moved(self, number, standing, letter):
        """The standing of a reader behind a letter."""
        return self.readers[number].moves[standing][letter]

    def applied(self, standings, letter):
        """The readers that are asked about the row behind a letter, at their beginning."""
        taken = [i for i, standing in zip(self.asked, standings) if standing in self.readers[i].accepted]
        wanted = [j for i, other, j in self.cuts if other == self.alphabet[letter] and i in taken]
        return tuple([(j, 0) for j in sorted(set(wanted))])

    def followed(self, stand, number):
        """The stand to which a letter, with x or without it, leads."""
        letter = number >> 1
        if number & 1:
            return ("behind", self.applied(stand[1], letter)) if stand[0] == "ahead" else DEAD
        if stand[0] == "ahead":
            steps = list(zip(self.asked, stand[1]))
            return "ahead", tuple([self.moved(i, standing, letter) for i, standing in steps])
        if stand[0] == "behind":
            return "behind", tuple([(j, self.moved(j, standing, letter)) for j, standing in stand[1]])
        return DEAD

    def accepts(self, stand):
        """Whether a cut applies at the place of x in the rows that lead there."""
        if stand[0] != "behind":
            return False
        return any([standing in self.readers[j].accepted for j, standing in stand[1]])
