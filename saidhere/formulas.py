"""Formulas as they are made, part by part: each is listed once, and those that say nothing new are not made.

What is made of tense parts has the two words of one direction; what is made of plain sets has `then`; what is
made of named parts has names.
"""

from saidhere.errors import TooMany

# Of the parts that are made many may not be needed in the end.
MOST_MADE = 60000


class Formulas:
    """The parts made so far: `no` is the part that never holds, `yes` the one that always does."""

    def __init__(self, never, always):
        self.parts = []
        self.numbers = {}
        self.opposites = {}
        self.no = self.made(never)
        self.yes = self.made(always)
        self.opposites[self.no] = self.yes
        self.opposites[self.yes] = self.no

    def made(self, part):
        """The number of a part."""
        if part not in self.numbers:
            if len(self.parts) == MOST_MADE:
                raise TooMany("part")
            self.numbers[part] = len(self.parts)
            self.parts.append(part)
        return self.numbers[part]

    def negated(self, one):
        """Where a part does not hold."""
        if one not in self.opposites:
            other = self.made(("not", one))
            self.opposites[one] = other
            self.opposites[other] = one
        return self.opposites[one]

    def woven(self, word, one, other):
        """Two parts joined by a word; what one of them has in it already is left out."""
        inner = "or" if word == "and" else "and"
        for here, there in ((one, other), (other, one)):
            part = self.parts[here]
            if part[0] == word and there in part[1:]:
                return here
            if part[0] == inner and there in part[1:]:
                return there
        return self.made((word, min(one, other), max(one, other)))

    def both(self, one, other):
        """Where both of two parts hold."""
        if one == other or other == self.yes:
            return one
        if one == self.yes:
            return other
        if self.no in (one, other) or self.opposites.get(one) == other:
            return self.no
        return self.woven("and", one, other)

    def either(self, one, other):
        """Where at least one of two parts holds."""
        if one == other or other == self.no:
            return one
        if one == self.no:
            return other
        if self.yes in (one, other) or self.opposites.get(one) == other:
            return self.yes
        return self.woven("or", one, other)

    def all_of(self, numbers):
        """Where all of some parts hold."""
        found = self.yes
        for number in numbers:
            found = self.both(found, number)
        return found

    def any_of(self, numbers):
        """Where at least one of some parts holds."""
        found = self.no
        for number in numbers:
            found = self.either(found, number)
        return found


class TenseFormulas(Formulas):
    """Tense parts that look in one direction: its words are `prev` and `since`, or `next` and `until`."""

    def __init__(self, near, far):
        Formulas.__init__(self, ("no",), ("yes",))
        self.near = near
        self.far = far

    def beside(self, one):
        """Where a part holds at the place directly before (behind)."""
        return self.no if one == self.no else self.made((self.near, one))

    def kept_from(self, event, reset):
        """Where an event happened, here or before, with no reset from there on; none is where the event is."""
        if event == self.no:
            return event
        clear = self.negated(reset)
        onward = self.beside(event) if clear == self.no else self.made((self.far, clear, event))
        return self.either(event, self.both(clear, onward))


class SetFormulas(Formulas):
    """Plain sets of rows; mirrored ones have the reversed rows."""

    def __init__(self):
        Formulas.__init__(self, ("none",), ("not", 0))
        self.empty = self.made(("empty",))
        self.mirrored = False

    def joined(self, one, other):
        """The rows of one set with a row of another one behind it."""
        if self.no in (one, other):
            return self.no
        if one == self.empty:
            return other
        if other == self.empty:
            return one
        return self.made(("then", other, one) if self.mirrored else ("then", one, other))

    def around(self, whole, block):
        """The rows of a whole that have a block in them: a row of the whole, it, and a row of the whole."""
        return self.joined(self.joined(whole, block), whole)

    def lacking(self, whole, block):
        """The rows of a whole that do not have a block in them."""
        return self.both(whole, self.negated(self.around(whole, block)))


class NamedFormulas(Formulas):
    """Named parts."""

    def __init__(self):
        Formulas.__init__(self, ("no",), ("yes",))

    def has_letter(self, letter, name):
        """That a named place has a letter."""
        return self.made(("letter", letter, name))

    def ahead_of(self, one, other):
        """That one named place is before another one."""
        return self.made(("less", one, other))

    def somewhere(self, name, part):
        """That a part holds for at least one place of a name."""
        return self.no if part == self.no else self.made(("some", name, part))

    def everywhere(self, name, part):
        """That a part holds for all places of a name."""
        return self.yes if part == self.yes else self.made(("all", name, part))

    def nowhere(self, name, part):
        """That a part holds for no place of a name."""
        return self.negated(self.somewhere(name, part))

    def amid(self, one, name, other):
        """That a named place is between two others."""
        return self.both(self.ahead_of(one, name), self.ahead_of(name, other))
