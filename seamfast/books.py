"""Books, and the captions that they carry for a row."""

from seamfast.errors import BadNumber
from seamfast.forms import is_within
from seamfast.showings import row_showings
from seamfast.ways import judged_row

MOST_BOOK = 100


class Book:
    """What is left out and what is brought together when captions are carried."""

    def __init__(self, least, close):
        if not is_within(least, 0, MOST_BOOK):
            raise BadNumber("least")
        if not is_within(close, 0, MOST_BOOK):
            raise BadNumber("close")
        self.least = least
        self.close = close

    def __eq__(self, other):
        return isinstance(other, Book) and self.least == other.least and self.close == other.close


def row_carried(plan, book, names):
    """The captions that the book carries for a row of any length that is known to be one."""
    least = book.least * plan.grain
    close = book.close * plan.grain
    told = []
    for cue, begun, over in row_showings(plan, names):
        if over - begun < least:
            continue
        if len(told) == 0 or begun - told[-1][2] >= close:
            told.append((cue, begun, over))
        elif told[-1][0] == cue:
            told[-1] = (cue, told[-1][1], over)
        else:
            told[-1] = (told[-1][0], told[-1][1], begun)
            told.append((cue, begun, over))
    return tuple(told)


def carried(plan, book, row):
    """The captions that the book carries for a row."""
    return row_carried(plan, book, judged_row(plan, row))
