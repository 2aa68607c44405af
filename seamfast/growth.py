"""How much longer texts may be."""

from seamfast.curve import Curve
from seamfast.errors import BadCue
from seamfast.forms import fraction, is_within
from seamfast.greatest import rings_at
from seamfast.readers import greatest_top, judge_room, judged_pace, points_of, readings, sent_cues, signs_of


def growth(plan, pace, room):
    """The greatest fraction by which the signs of all texts may be multiplied, or None if nothing is ever sent.

    To read texts that are f times as long at a pace, in a room, is to read the texts themselves at a pace and
    in a room that are f times less: so the curve tells it.
    """
    above, below = judged_pace(pace)
    judge_room(room)
    if len(sent_cues(plan)) == 0:
        return None
    curve = Curve(plan)
    line = None
    for (slow, least), other in zip(curve.corners, curve.lines):
        if least[0] * above * slow[1] <= room * below * slow[0] * least[1]:
            if line is None and slow[0] > 0:
                return fraction(above * slow[1], below * slow[0])
            if line is not None:
                break
        line = other
    signs, time = line
    return fraction(above * time + room * below * plan.grain, signs * below * plan.grain)


def is_kept(plan, signs, pace, full):
    """Whether nothing is missed on any way, by the numbers of signs of all cues."""
    told = readings(plan, signs, pace)
    if rings_at(plan, told).least_ring(1) is not None:
        return False
    top, _ = greatest_top(plan, told)
    return top is None or top <= full


def cue_room(plan, pace, room, cue):
    """The greatest number of signs that the text of a cue may have, -1 if none, or None if it is never sent."""
    kept = judged_pace(pace)
    judge_room(room)
    signs = signs_of(plan)
    if not is_within(cue, 0, len(signs) - 1):
        raise BadCue(cue)
    if cue not in sent_cues(plan):
        return None
    full = room * points_of(plan, kept)
    good = -1
    # A text of more signs than the room has is missed at once.
    bad = room + 1
    while bad - good > 1:
        signs[cue] = (good + bad) // 2
        if is_kept(plan, signs, kept, full):
            good = signs[cue]
        else:
            bad = signs[cue]
    return good
