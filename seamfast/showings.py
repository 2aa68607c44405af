"""When cues are on the screen in a row."""

from seamfast.ways import judged_row


def row_showings(plan, names):
    """The showings of a row of any length that is known to be one."""
    told = []
    begun = 0
    for name in names:
        for cue, on, off in plan.strip_of(name):
            if on == 0 and len(told) > 0 and told[-1][0] == cue and told[-1][2] == begun:
                told[-1] = (cue, told[-1][1], begun + off)
            else:
                told.append((cue, begun + on, begun + off))
        begun += plan.shown_of(name)
    return tuple(told)


def showings(plan, row):
    """The showings of a row."""
    return row_showings(plan, judged_row(plan, row))
