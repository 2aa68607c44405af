"""Rings on which a reader falls behind, and the greatest lag where there are none."""

from seamfast.errors import BadWay
from seamfast.forms import fraction
from seamfast.readers import greatest_top, judged_pace, least_way_to_top, readings, signs_of
from seamfast.rings import Rings
from seamfast.ways import judged_row


def rings_at(plan, told):
    """The rings of a plan, by the points that each piece adds to the lag of a reader who is never done."""
    behind = {name: plan.followers(name) for name in plan.names}
    return Rings(behind, {name: told[name].rise for name in plan.names})


class GreatestLag:
    """The greatest lag on any way and the least way on which it comes, or the least ring that gains."""

    def __init__(self, plan, pace):
        told = readings(plan, signs_of(plan), judged_pace(pace))
        self.ring = rings_at(plan, told).least_ring(1)
        self.lag = None
        self.way = None
        if self.ring is None:
            lag, many = greatest_top(plan, told)
            self.lag = 0 if lag is None else lag
            self.way = None if lag is None else least_way_to_top(plan, told, lag, many)

    def __bool__(self):
        return self.ring is None


def judged_ring(plan, ring):
    """The ring as a tuple."""
    names = judged_row(plan, ring)
    for number, name in enumerate(names):
        if name not in plan.followers(names[number - 1]):
            raise BadWay(number)
    return names


def ring_signs(plan, ring):
    """The signs of all sends of a ring."""
    return sum([len(plan.reel.cues[cue][3]) for name in ring for cue, _ in plan.sends_of(name)])


def ring_time(plan, ring):
    """How many grains a ring is shown."""
    return sum([plan.shown_of(name) for name in ring])


def gains(plan, pace, ring):
    """Whether a ring gains at a pace."""
    told = readings(plan, signs_of(plan), judged_pace(pace))
    return sum([told[name].rise for name in judged_ring(plan, ring)]) > 0


def least_pace(plan):
    """The least pace with which the lag is bounded on all ways, and the least ring that asks for it, or None."""
    signs = signs_of(plan)
    pace = (0, 1)
    while True:
        rings = rings_at(plan, readings(plan, signs, pace))
        greatest = rings.greatest_weight()
        if greatest is None or greatest <= 0:
            return pace, (None if pace == (0, 1) else rings.least_ring(0))
        # The ring that gains most asks for a greater pace, which is nearer to the least one.
        ring = rings.least_ring(greatest)
        pace = fraction(ring_signs(plan, ring) * plan.grain, ring_time(plan, ring))
