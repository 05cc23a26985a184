"""Books: sayings over one alphabet, by their names."""

from saidhere.errors import BadEntry, TooMany, Twice, Unknown
from saidhere.kinds import is_listing, is_name
from saidhere.plain import check_alphabet
from saidhere.sayings import saying

MOST_ENTRIES = 40


def is_entry(thing):
    """Whether the thing is a pair of a name and a thing."""
    return is_listing(thing) and len(thing) == 2 and is_name(thing[0])


def check_entries(thing):
    """Raise an error unless the thing has so many pairs of a name and a thing, with different names."""
    if not is_listing(thing):
        raise BadEntry(-1)
    for number, entry in enumerate(thing):
        if not is_entry(entry):
            raise BadEntry(number)
    if len(thing) > MOST_ENTRIES:
        raise TooMany("entry")
    names = [entry[0] for entry in thing]
    for number, name in enumerate(names):
        if name in names[:number]:
            raise Twice(name)


class Book:
    """At most 40 sayings over an alphabet, each with a name."""

    def __init__(self, alphabet, entries):
        check_alphabet(alphabet)
        check_entries(entries)
        self.alphabet = alphabet
        self.entries = tuple([(entry[0], saying(alphabet, entry[1])) for entry in entries])
        self.names = tuple([entry[0] for entry in self.entries])

    def __getitem__(self, name):
        if isinstance(name, str):
            for known, thing in self.entries:
                if known == name:
                    return thing
        raise Unknown(name)

    def __contains__(self, name):
        return isinstance(name, str) and name in self.names

    def __iter__(self):
        return iter(self.names)

    def __len__(self):
        return len(self.entries)

    def __eq__(self, other):
        return isinstance(other, Book) and self.alphabet == other.alphabet and self.entries == other.entries
