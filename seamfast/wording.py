"""Texts in one or two lines."""

from seamfast.errors import BadText, BadWidth, TooWide
from seamfast.forms import is_within
from seamfast.reels import is_text

MOST_WIDTH = 60


def breaks_of(text):
    """All pairs of lines into which the text can be broken, those with the shorter first lines first."""
    return [(text[:at], text[at + 1:]) for at, sign in enumerate(text) if sign == " "]


def wider(lines):
    """The number of signs of the longer one of two lines."""
    return max(len(lines[0]), len(lines[1]))


def difference(lines):
    """By how many signs two lines differ."""
    return abs(len(lines[0]) - len(lines[1]))


def two_lines(text, width):
    """The text in one or two lines that are not wider than the width."""
    if not is_text(text):
        raise BadText(-1)
    if not is_within(width, 1, MOST_WIDTH):
        raise BadWidth(width)
    if len(text) <= width:
        return (text,)
    breaks = breaks_of(text)
    fitting = [lines for lines in breaks if wider(lines) <= width]
    if len(fitting) == 0:
        raise TooWide(min([len(text)] + [wider(lines) for lines in breaks]))
    # Of several that differ as little, min takes the one told first.
    return min(fitting, key=difference)
