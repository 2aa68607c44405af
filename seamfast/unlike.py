"""Which cues must be given texts of their own, so that doubts end soon enough."""

from seamfast.courses import Doubting, Hearsay, delay_of, ranks_of
from seamfast.doubts import judge_slack
from seamfast.errors import BadNumber, TooMany
from seamfast.forms import is_within
from seamfast.picks import picks
from seamfast.readers import sent_cues
from seamfast.sendings import judge_not_silent

MOST_CUES_ASKED = 8
MOST_DELAY_ASKED = 100


def ends_within(doubting, delay):
    """Whether the doubt always ends with at most this delay."""
    led = doubting.all_doubts()
    ranks = ranks_of(led)
    return len(ranks) == len(led) and delay_of(doubting, ranks) <= delay


def least_unlike(plan, slack, delay):
    """The first of the fewest cues with which, made unlike, the doubt always ends with at most this delay, or None."""
    judge_slack(slack)
    if not is_within(delay, 0, MOST_DELAY_ASKED):
        raise BadNumber("delay")
    cues = sent_cues(plan)
    if len(cues) > MOST_CUES_ASKED:
        raise TooMany("cue")
    judge_not_silent(plan)
    hearsay = Hearsay(plan)
    for unlike in picks(cues):
        if ends_within(Doubting(hearsay, slack, unlike), delay):
            return unlike
    return None
