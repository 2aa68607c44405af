"""Texts of rolls, written and read."""

from seamfast.errors import BadText
from seamfast.forms import DIGITS, LETTERS
from seamfast.rolls import MOST_DEEP, Roll

MOST_DIGITS = 40


def write_item(item):
    """The text of one item of a roll."""
    if isinstance(item, str):
        return item
    times, written = item
    return f"{times}({write_roll(written)})"


def write_roll(written):
    """The text of a roll, which is passed as the tuple of its items."""
    return " ".join([write_item(item) for item in written])


def run_end(text, at, signs):
    """The index behind the run of these signs that begins here."""
    while at < len(text) and text[at] in signs:
        at += 1
    return at


def stands(text, at, sign):
    """Whether this sign stands here in the text."""
    return at < len(text) and text[at] == sign


def is_times(digits):
    """Whether a run of digits is a number of times."""
    return len(digits) <= MOST_DIGITS and digits[0] != "0" and digits != "1"


def read_item(plan, text, at, depth):
    """The item that begins here, and the index behind it."""
    end = run_end(text, at, LETTERS)
    if end > at:
        if text[at:end] not in plan:
            raise BadText(at)
        return text[at:end], end
    end = run_end(text, at, DIGITS)
    if end == at or not is_times(text[at:end]):
        raise BadText(at)
    if not stands(text, end, "(") or depth == MOST_DEEP:
        raise BadText(end)
    items, behind = read_items(plan, text, end + 1, depth + 1)
    if not stands(text, behind, ")"):
        raise BadText(behind)
    return (int(text[at:end]), items), behind + 1


def read_items(plan, text, at, depth):
    """The items from here on, as far as one blank stands between any two, and the index behind them."""
    item, at = read_item(plan, text, at, depth)
    items = [item]
    while stands(text, at, " "):
        item, at = read_item(plan, text, at + 1, depth)
        items.append(item)
    return tuple(items), at


def read_roll(plan, text):
    """The roll over the plan that the text writes."""
    if not isinstance(text, str):
        raise BadText(-1)
    items, at = read_items(plan, text, 0, 0)
    if at < len(text):
        raise BadText(at)
    return Roll(plan, items)
