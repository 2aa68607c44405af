"""The least room for each pace."""

from seamfast.errors import NoPlace, TooSlow
from seamfast.forms import fraction, is_within
from seamfast.greatest import least_pace, ring_time
from seamfast.readers import greatest_top, judge_room, judged_pace, readings, sent_cues, signs_of


def room_at(plan, line, pace):
    """The room at a pace of a line: of the signs sent in a time, less what is read in it; a fraction."""
    signs, time = line
    above, below = pace
    return fraction(signs * below * plan.grain - time * above, below * plan.grain)


def is_less(left, right):
    """Whether a fraction is less than another one."""
    return left[0] * right[1] < right[0] * left[1]


def line_behind(plan, pace):
    """The line that tells the least room at a pace and at those just above it; (0, 0) if nothing is ever sent.

    It is that of the greatest lag at a pace that is greater by so little that no line of more room at the
    pace itself falls behind one of less, since no lag comes about in as many grains as the number below tells.
    """
    above, below = pace
    # The greatest lag comes about within three times as many pieces as there are at most.
    many = 3 * ring_time(plan, plan.names) * len(plan)
    lag, _ = greatest_top(plan, readings(plan, signs_of(plan), (above * many + 1, below * many)))
    if lag is None:
        return (0, 0)
    # The points of signs are a multiple of the number: so the remainder tells the time.
    time = -lag % many
    return (lag + time * (above * many + 1)) // (below * many * plan.grain), time


def crossing(plan, line, other):
    """The pace at which two lines tell the same room; the second one takes less time."""
    return fraction((line[0] - other[0]) * plan.grain, line[1] - other[1])


def end_of_line(plan, line, last):
    """The pace at which the curve leaves a line, and the line that it takes then; last is the line on which it ends."""
    while True:
        pace = crossing(plan, line, last)
        found = line_behind(plan, pace)
        if room_at(plan, found, pace) == room_at(plan, line, pace):
            return pace, found
        last = found


class Curve:
    """The least room with which nothing is missed on any way, for all paces with which there is one."""

    def __init__(self, plan):
        pace, _ = least_pace(plan)
        signs = signs_of(plan)
        longest = max([0] + [signs[cue] for cue in sent_cues(plan)])
        line = line_behind(plan, pace)
        corners = [(pace, room_at(plan, line, pace))]
        lines = [line]
        while line[1] > 0:
            pace, line = end_of_line(plan, line, (longest, 0))
            corners.append((pace, room_at(plan, line, pace)))
            lines.append(line)
        self.corners = tuple(corners)
        # The lines that begin at the corners, as pairs of signs and grains.
        self.lines = tuple(lines)
        self._plan = plan

    def __call__(self, pace):
        kept = judged_pace(pace)
        if is_less(kept, self.corners[0][0]):
            raise TooSlow(pace)
        line = self.lines[0]
        for (begun, _), other in zip(self.corners, self.lines):
            if not is_less(kept, begun):
                line = other
        return room_at(self._plan, line, kept)

    def pace_for(self, room):
        """The least pace for a room, or None."""
        judge_room(room)
        if is_less((room, 1), self.corners[-1][1]):
            return None
        line = None
        for (pace, least), other in zip(self.corners, self.lines):
            if not is_less((room, 1), least):
                return pace if line is None else crossing(self._plan, line, (room, 0))
            line = other
        return None

    def __getitem__(self, at):
        if not is_within(at, 0, len(self.corners) - 1):
            raise NoPlace(at)
        return self.corners[at]

    def __len__(self):
        return len(self.corners)

    def __iter__(self):
        return iter(self.corners)
