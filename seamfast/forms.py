"""Judges the plain forms that many points name, and makes fractions."""

from math import gcd

LETTERS = "abcdefghijklmnopqrstuvwxyz"
DIGITS = "0123456789"


def is_integer(thing):
    """Whether this is an integer; True and False are none."""
    return isinstance(thing, int) and not isinstance(thing, bool)


def is_within(thing, low, high):
    """Whether this is an integer from low to high."""
    return is_integer(thing) and low <= thing <= high


def items_of(thing):
    """The items of a tuple or a list as a tuple, None of any other thing."""
    if isinstance(thing, (tuple, list)):
        return tuple(thing)
    return None


def parts_of(thing, many):
    """The items of a tuple or a list of so many things, None of any other thing."""
    items = items_of(thing)
    if items is None or len(items) != many:
        return None
    return items


def is_fraction(thing):
    """Whether this is a fraction from zero on."""
    parts = parts_of(thing, 2)
    if parts is None or not is_integer(parts[0]) or not is_integer(parts[1]):
        return False
    above, below = parts
    return above >= 0 and below >= 1 and gcd(above, below) == 1


def fraction(above, below):
    """The fraction of two integers, the second one from 1."""
    common = gcd(above, below)
    return above // common, below // common
