"""The shortest text of a roll that stands for a row."""

from seamfast.errors import BadRow, TooLong
from seamfast.forms import items_of
from seamfast.reels import is_name
from seamfast.ways import MOST_NAMES

MOST_FOLDED = 40


def judged_names(row):
    """The row, of whatever plan, as a tuple."""
    names = items_of(row)
    if names is None or not 1 <= len(names) <= MOST_NAMES:
        raise BadRow(-1)
    for number, name in enumerate(names):
        if not is_name(name):
            raise BadRow(number)
    return names


def is_before(text, other):
    """Whether a text is shorter than another one, or comes first of two that are as short."""
    return len(text) < len(other) or (len(text) == len(other) and text < other)


def best_text(names, best, begin, end):
    """The shortest text for the names from begin to end; best tells those for all shorter stretches."""
    if end - begin == 1:
        return names[begin]
    found = f"{names[begin]} {best[(begin + 1, end)]}"
    for middle in range(begin + 2, end):
        text = f"{best[(begin, middle)]} {best[(middle, end)]}"
        if is_before(text, found):
            found = text
    size = end - begin
    for part in range(1, size // 2 + 1):
        times = size // part
        if names[begin:begin + part] * times == names[begin:end]:
            text = f"{times}({best[(begin, begin + part)]})"
            if is_before(text, found):
                found = text
    return found


def fold_row(row):
    """The folded text of a row."""
    names = judged_names(row)
    if len(names) > MOST_FOLDED:
        raise TooLong(len(names))
    best = {}
    for size in range(1, len(names) + 1):
        for begin in range(len(names) - size + 1):
            end = begin + size
            best[(begin, end)] = best_text(names, best, begin, end)
    return best[(0, len(names))]
