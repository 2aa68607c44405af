"""[10]: texts in one or two lines."""

import random

from seamfast.errors import BadText, BadWidth, TooWide
from seamfast.wording import two_lines
from tests.samples import Case


def tried(text, width):
    """The lines as [10] tells, None if there are none."""
    if len(text) <= width:
        return (text,)
    breaks = [(text[:at], text[at + 1:]) for at in range(len(text)) if text[at] == " "]
    fitting = [pair for pair in breaks if max(map(len, pair)) <= width]
    ordered = sorted(fitting, key=lambda pair: (abs(len(pair[0]) - len(pair[1])), len(pair[0])))
    return ordered[0] if ordered else None


class WordingTest(Case):
    def test_one_line(self):
        self.assertEqual(two_lines("so we go", 8), ("so we go",))
        self.assertEqual(two_lines("so we go", 60), ("so we go",))
        self.assertEqual(two_lines("a", 1), ("a",))
        self.assertEqual(two_lines("a" * 60, 60), ("a" * 60,))

    def test_two_lines(self):
        self.assertEqual(two_lines("so we go", 7), ("so", "we go"))
        self.assertEqual(two_lines("good evening", 7), ("good", "evening"))
        self.assertEqual(two_lines("it is late", 5), ("it is", "late"))

    def test_both_breaks_differ_as_little(self):
        self.assertEqual(two_lines("aaa b ccc", 8), ("aaa", "b ccc"))
        self.assertEqual(two_lines("aaa b ccc", 5), ("aaa", "b ccc"))
        self.assertEqual(two_lines("aa bb cc dd", 10), ("aa bb", "cc dd"))

    def test_too_wide(self):
        self.fails(TooWide, 7, two_lines, "good evening", 6)
        self.fails(TooWide, 5, two_lines, "so we go", 4)
        self.fails(TooWide, 60, two_lines, "a" * 60, 59)
        self.fails(TooWide, 2, two_lines, "ab", 1)
        self.fails(TooWide, 5, two_lines, "aaa b ccc", 4)
        self.fails(TooWide, 7, two_lines, "a bcdefgh", 6)

    def test_against_trying_all_breaks(self):
        dice = random.Random(9)
        for _ in range(400):
            words = ["a" * dice.randint(1, 7) for _ in range(dice.randint(1, 7))]
            text = " ".join(words)
            for width in range(1, 61, dice.randint(1, 3)):
                found = tried(text, width)
                if found is not None:
                    self.assertEqual(two_lines(text, width), found)
                else:
                    least = min(other for other in range(1, 61) if tried(text, other) is not None)
                    self.fails(TooWide, least, two_lines, text, width)

    def test_errors_in_order(self):
        for text in ("", " a", "a ", "a  b", "a%", "a" * 61, None, 5, ("a",), b"a"):
            self.fails(BadText, -1, two_lines, text, None)
            self.fails(BadText, -1, two_lines, text, 5)
        for width in (0, 61, -1, True, None, "5", 5.0, (5,), 10 ** 40):
            self.fails(BadWidth, (width,), two_lines, "good evening", width)
            self.fails(BadWidth, (width,), two_lines, "a", width)
