"""[1]: the errors."""

import inspect

from seamfast import errors
from tests.samples import Case

MADE = {
    "BadLength": ("length",), "BadCue": ("number",), "BadPiece": ("number",), "BadArrow": ("number",),
    "BadStart": ("number",), "BadEnd": ("number",), "Unreached": ("name",), "Twice": ("name",),
    "TooMany": ("word",), "TooLong": ("number",), "BadRow": ("number",), "BadWay": ("number",),
    "BadItem": ("number",), "BadText": ("at",), "BadWidth": ("width",), "TooWide": ("least",),
    "BadLine": ("line", "word"), "BadNumber": ("word",), "BadPrices": ("number",), "BadPace": ("pace",),
    "BadRoom": ("room",), "TooSlow": ("pace",), "BadWording": ("number",), "BadCoins": ("number",),
    "BadForesight": ("number",), "Beaten": ("number",), "BadNamed": ("number",), "BadMemory": ("memory",),
    "Apart": ("first", "second"), "BadMark": ("number",), "BadLot": ("lot",), "NoDeed": ("word",),
    "BadHeard": ("number",), "BadDelay": ("number",), "Silent": ("name",), "BadRate": ("number",),
    "BadEntry": ("number",), "BadTail": ("number",), "Stuck": ("version",), "NoPlace": ("number",),
    "BadName": ("name",), "Unknown": ("name",), "Unlike": ("word",), "InUse": ("name",), "Torn": ("line",),
}


class ErrorsTest(Case):
    def test_all_are_there(self):
        found = {name for name, thing in vars(errors).items() if inspect.isclass(thing)}
        self.assertEqual(found, set(MADE) | {"CaptionError"})

    def test_each_is_directly_under_the_base(self):
        self.assertEqual(errors.CaptionError.__bases__, (ValueError,))
        for name in MADE:
            self.assertEqual(getattr(errors, name).__bases__, (errors.CaptionError,))

    def test_each_keeps_what_it_is_made_with(self):
        for name, words in MADE.items():
            things = [object() for _ in words]
            made = getattr(errors, name)(*things)
            again = getattr(errors, name)(**dict(zip(words, things)))
            for word, thing in zip(words, things):
                self.assertIs(getattr(made, word), thing)
                self.assertIs(getattr(again, word), thing)

    def test_none_catches_another(self):
        with self.assertRaises(errors.BadRow):
            try:
                raise errors.BadRow(3)
            except errors.BadWay:
                self.fail("another error was caught")
