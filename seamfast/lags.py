"""The lags of a reader on a row."""

from seamfast.readers import judged_pace, points_of
from seamfast.ways import judged_row, row_length, row_sends


def lags(plan, row, pace):
    """The lags, in points, behind each send of the row, and at last that at its end."""
    names = judged_row(plan, row)
    above, below = judged_pace(pace)
    sign = points_of(plan, (above, below))
    told = []
    lag = 0
    last = 0
    for cue, moment in row_sends(plan, names):
        lag = max(0, lag - above * (moment - last)) + len(plan.reel.cues[cue][3]) * sign
        last = moment
        told.append(lag)
    told.append(max(0, lag - above * (row_length(plan, names) - last)))
    return tuple(told)
