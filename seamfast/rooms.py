"""Two rooms that show the same pieces with other rates: how much longer each piece takes in the second one."""

from math import gcd, lcm

from seamfast.errors import BadArrow, BadNumber, BadRate
from seamfast.forms import is_within, items_of, parts_of
from seamfast.links import raised
from seamfast.plans import MOST_RATE

MOST_LIMIT = 500


def rate_of(thing):
    """The thing as a rate, None if it is none."""
    pair = parts_of(thing, 2)
    if pair is None or not is_within(pair[0], 1, MOST_RATE) or not is_within(pair[1], 1, MOST_RATE):
        return None
    return pair if gcd(pair[0], pair[1]) == 1 else None


def judged_rates(plan, rates):
    """The rates of the pieces, as tuples."""
    items = parts_of(rates, len(plan))
    if items is None:
        raise BadRate(-1)
    judged = []
    for number, thing in enumerate(items):
        rate = rate_of(thing)
        if rate is None:
            raise BadRate(number)
        judged.append(rate)
    return tuple(judged)


def judged_meets(plan, meets):
    """The meets, as tuples."""
    items = items_of(meets)
    if items is None:
        raise BadArrow(-1)
    judged = []
    for number, thing in enumerate(items):
        arrow = parts_of(thing, 2)
        if arrow is None or arrow not in plan.arrows or arrow in judged:
            raise BadArrow(number)
        judged.append(arrow)
    return tuple(judged)


def judge_limit(limit):
    """Raises the error of a bad limit."""
    if not is_within(limit, 0, MOST_LIMIT):
        raise BadNumber("limit")


def parts_of_tick(plan, rates):
    """How many parts a tick has."""
    parts = plan.grain
    for _, below in rates:
        parts = lcm(parts, below)
    return parts


def piece_drifts(plan, rates):
    """For each piece, the time that it takes in the second room less that in the first one, in parts."""
    parts = parts_of_tick(plan, rates)
    drifts = {}
    for name, (above, below) in zip(plan.names, rates):
        _, start, end, _, _, _ = plan.piece_of(name)
        first = plan.shown_of(name) * (parts // plan.grain)
        drifts[name] = (end - start) * (above * parts // below) - first
    return drifts


def greatest_drifts(plan, drifts, meets):
    """For each piece the greatest drift at the end of a way to it, None if rings make it ever greater."""
    fresh = list(plan.starts) + [right for _, right in meets]
    greatest = {name: drifts[name] for name in fresh}
    links = [(left, right, drifts[right]) for left, right in plan.arrows if (left, right) not in meets]
    # Without rings that make it greater, the greatest drift comes by a way that passes no piece twice.
    for _ in range(len(plan)):
        if len(raised(greatest, links)) == 0:
            return greatest
    return None


def drift_spans(plan, drifts, meets):
    """For each piece, in order, its name and the least and the greatest drift; None if the drift is not bounded."""
    greatest = greatest_drifts(plan, drifts, meets)
    turned = greatest_drifts(plan, {name: -drift for name, drift in drifts.items()}, meets)
    if greatest is None or turned is None:
        return None
    return tuple([(name, -turned[name], greatest[name]) for name in plan.names])


def keeps_within(spans, limit):
    """Whether no drift, nor its negative, is greater than the limit."""
    return spans is not None and all([-limit <= low and high <= limit for _, low, high in spans])
