"""Marks: changes of a plan with their prices, and the lots of marks that can be done together."""

from seamfast.changes import BAR, DROP, TEXT, arrows_left, changed_plan
from seamfast.errors import BadLot, BadMark
from seamfast.forms import is_within, items_of
from seamfast.picks import picks
from seamfast.plans import first_unreached
from seamfast.reels import is_text

MOST_MARKS = 6
MOST_PRICE = 100


def mark_of(plan, thing):
    """The thing as a mark for the plan, None if it is none."""
    parts = items_of(thing)
    if not parts or not is_within(parts[-1], 0, MOST_PRICE):
        return None
    word = parts[0]
    good = False
    if word == DROP and len(parts) == 3:
        good = is_within(parts[1], 0, len(plan.reel) - 1)
    elif word == TEXT and len(parts) == 4:
        good = is_within(parts[1], 0, len(plan.reel) - 1) and is_text(parts[2])
    elif word == BAR and len(parts) == 4:
        good = parts[1:3] in plan.arrows
    return parts if good else None


def judged_marks(plan, marks):
    """The marks for a plan, as tuples."""
    items = items_of(marks)
    if items is None or not 1 <= len(items) <= MOST_MARKS:
        raise BadMark(-1)
    judged = []
    for number, thing in enumerate(items):
        mark = mark_of(plan, thing)
        if mark is None:
            raise BadMark(number)
        judged.append(mark)
    return tuple(judged)


def change_of(mark):
    """The change of a mark, without its price."""
    return mark[:-1]


def subject_of(mark):
    """The cue, a number, or the arrow, a pair, that a mark is about."""
    return mark[1:3] if mark[0] == BAR else mark[1]


def is_fit(plan, marks, lot):
    """Whether an ascending tuple of numbers of marks is a fit lot."""
    told = [marks[number] for number in lot]
    if len(set([subject_of(mark) for mark in told])) < len(told):
        return False
    arrows = arrows_left(plan, [change_of(mark) for mark in told])
    return first_unreached(plan.names, arrows, plan.starts, plan.ends) is None


def lot_price(marks, lot):
    """The sum of the prices of the marks of a lot."""
    return sum([marks[number][-1] for number in lot])


def fit_lots(plan, marks):
    """All fit lots of marks that are known to be good, in their order."""
    told = [(lot_price(marks, lot), len(lot), lot) for lot in picks(tuple(range(len(marks))))]
    return [lot for _, _, lot in sorted(told) if is_fit(plan, marks, lot)]


def judged_lot(plan, marks, lot):
    """The lot as a tuple, where the marks are known to be good."""
    numbers = items_of(lot)
    if numbers is None:
        raise BadLot(lot)
    last = -1
    for number in numbers:
        if not is_within(number, last + 1, len(marks) - 1):
            raise BadLot(lot)
        last = number
    if not is_fit(plan, marks, numbers):
        raise BadLot(lot)
    return numbers


def plan_under_lot(plan, marks, lot):
    """The plan under a fit lot of marks that are known to be good."""
    return changed_plan(plan, [change_of(marks[number]) for number in lot])


def plan_under(plan, marks, lot):
    """The plan under a fit lot."""
    kept = judged_marks(plan, marks)
    return plan_under_lot(plan, kept, judged_lot(plan, kept, lot))


def lots(plan, marks):
    """All fit lots, in their order."""
    kept = judged_marks(plan, marks)
    yield from fit_lots(plan, kept)


def price_of(plan, marks, lot):
    """The price of a fit lot."""
    kept = judged_marks(plan, marks)
    return lot_price(kept, judged_lot(plan, kept, lot))
