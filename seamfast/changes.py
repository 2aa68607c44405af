"""Changes of plans: `("drop", cue)`, `("text", cue, text)` and `("bar", name, name)`."""

from seamfast.plans import Plan
from seamfast.reels import Reel

DROP = "drop"
TEXT = "text"
BAR = "bar"


def arrows_left(plan, changes):
    """The arrows of the plan that none of the changes takes out."""
    barred = [change[1:] for change in changes if change[0] == BAR]
    return [arrow for arrow in plan.arrows if arrow not in barred]


def changed_plan(plan, changes):
    """The plan under changes, which are all about the cues and arrows that it has now."""
    dropped = [change[1] for change in changes if change[0] == DROP]
    texts = {change[1]: change[2] for change in changes if change[0] == TEXT}
    cues = [
        cue[:3] + (texts.get(number, cue[3]),) for number, cue in enumerate(plan.reel.cues) if number not in dropped
    ]
    reel = Reel(plan.reel.length, cues)
    return Plan(reel, plan.pieces, arrows_left(plan, changes), plan.starts, plan.ends)
