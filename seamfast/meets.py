"""At which arrows the rooms must wait for one another."""

from seamfast.errors import TooMany
from seamfast.picks import picks
from seamfast.rooms import drift_spans, judge_limit, judged_rates, keeps_within, piece_drifts

MOST_ARROWS = 10


def fewest_meets(plan, rates, limit):
    """The first of the fewest arrows with which, as the meets, no drift is beyond the limit, or None."""
    drifts = piece_drifts(plan, judged_rates(plan, rates))
    judge_limit(limit)
    if len(plan.arrows) > MOST_ARROWS:
        raise TooMany("arrow")
    for meets in picks(plan.arrows):
        if keeps_within(drift_spans(plan, drifts, meets), limit):
            return meets
    return None
