"""Every error of the document, under the class told, with the arguments told as attributes."""

import unittest

from saidhere import errors
from saidhere.errors import SaidError, WrongItem, WrongThing

THINGS = (
    "BadAlphabet BadPlace BadPlaces BadSaying BadNames BadLetters BadLetter BadSide BadKind BadNumber BadGlass"
    " BadName"
).split()
ITEMS = (
    "BadSheet BadCut BadMarked BadMove BadAccepted BadEntry BadTold BadPairs BadSheets BadFilling"
).split()
OTHERS = {
    "BadRow": ("at",),
    "BadText": ("at",),
    "BadLine": ("line", "word"),
    "BadReader": ("side", "number"),
    "BadRuleSheet": ("which", "number"),
    "Free": ("name",),
    "Twice": ("name",),
    "Unknown": ("name",),
    "TooMany": ("word",),
    "TooLong": ("number",),
    "Beyond": ("number",),
    "Unlike": ("word",),
    "NoDeed": ("word",),
    "Unsayable": ("side", "standing", "turn", "count"),
    "Unlawful": ("row", "place"),
    "Blurred": ("row", "other"),
    "Ended": (),
    "NoMatch": (),
}


class TheErrors(unittest.TestCase):
    def made(self, name, words):
        """An error made by position and by names, its attributes checked."""
        worths = [object() for _ in words]
        for error in (getattr(errors, name)(*worths), getattr(errors, name)(**dict(zip(words, worths)))):
            for word, worth in zip(words, worths):
                self.assertIs(getattr(error, word), worth)
        return getattr(errors, name)

    def test_base(self):
        self.assertEqual(SaidError.__bases__, (ValueError,))
        self.assertEqual(WrongThing.__bases__, (SaidError,))
        self.assertEqual(WrongItem.__bases__, (SaidError,))

    def test_things(self):
        for name in THINGS:
            self.assertEqual(self.made(name, ("thing",)).__bases__, (WrongThing,), name)

    def test_items(self):
        for name in ITEMS:
            self.assertEqual(self.made(name, ("number",)).__bases__, (WrongItem,), name)

    def test_others(self):
        for name, words in OTHERS.items():
            self.assertEqual(self.made(name, words).__bases__, (SaidError,), name)

    def test_there_are_no_more(self):
        told = set(THINGS + ITEMS + list(OTHERS)) | {"SaidError", "WrongThing", "WrongItem"}
        there = {name for name, thing in vars(errors).items() if isinstance(thing, type)}
        self.assertEqual(there, told)
        for name in told:
            self.assertTrue(issubclass(getattr(errors, name), SaidError))

    def test_they_are_caught_by_their_bases(self):
        for name in THINGS:
            with self.assertRaises(ValueError):
                raise getattr(errors, name)("thing")


if __name__ == "__main__":
    unittest.main()
