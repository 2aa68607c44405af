"""The least foresight, purse and room with which a desk keeps its promise."""

from seamfast.desks import MOST_COINS, MOST_DESK_ROOM
from seamfast.thresholds import Thresholds
from seamfast.windows import MOST_FORESIGHT, first_windows


def keeps(desk, many):
    """Whether a desk keeps its promise with a foresight."""
    game = Thresholds(desk, many)
    return all([game.threshold(window, desk.most) >= 0 for window in first_windows(desk.plan, many)])


def least_foresight(desk):
    """The least foresight with which the desk keeps its promise, or None."""
    for many in range(MOST_FORESIGHT + 1):
        if keeps(desk, many):
            return many
    return None


def least_kept(many, most, made):
    """The least number up to the most one for which the desk that is made with it keeps its promise, or None.

    With more coins or a greater room the desk can do all that it could, so each greater number does so, too.
    """
    low = 0
    high = most + 1
    while low < high:
        middle = (low + high) // 2
        if keeps(made(middle), many):
            high = middle
        else:
            low = middle + 1
    return low if low <= most else None


def least_purse(desk, many):
    """The least purse with which the desk keeps its promise, or None."""
    return least_kept(many, MOST_COINS, lambda most: desk.altered(new_most=most))


def least_room(desk, many):
    """The least room with which the desk keeps its promise, or None."""
    return least_kept(many, MOST_DESK_ROOM, lambda room: desk.altered(new_room=room))
