"""Readers: their paces, and what the pieces of a plan do to their lags, in points."""

from seamfast.errors import BadPace, BadRoom
from seamfast.forms import is_fraction, is_within, items_of

MOST_ROOM = 2000


def judged_pace(pace):
    """The pace of a reader, as a tuple."""
    if not is_fraction(pace):
        raise BadPace(pace)
    return items_of(pace)


def judge_room(room):
    """Raises the error of a bad room."""
    if not is_within(room, 0, MOST_ROOM):
        raise BadRoom(room)


def points_of(plan, pace):
    """How many points a sign has at a pace."""
    return pace[1] * plan.grain


def signs_of(plan):
    """The numbers of signs of the texts of all cues."""
    return [len(cue[3]) for cue in plan.reel.cues]


def sent_cues(plan):
    """The numbers of the cues that are sent in some piece, ascending."""
    return sorted(set([cue for name in plan.names for cue, _ in plan.sends_of(name)]))


class Reading:
    """What a piece does to the lag with which it begins.

    What is sent at most adds to the lag ahead, or to nothing if all was read meanwhile. So each lag
    is the greater one of two: the lag ahead and some points, or what it would be from the lag 0.
    """

    def __init__(self, plan, name, signs, pace):
        sign = points_of(plan, pace)
        sent = 0
        lag = 0
        last = 0
        # The greatest lag behind a send, as what it adds to the lag ahead and as what it is at least.
        self.top_rise = None
        self.least_top = None
        for cue, moment in plan.sends_of(name):
            sent += signs[cue] * sign
            lag = max(0, lag - pace[0] * (moment - last)) + signs[cue] * sign
            last = moment
            rise = sent - pace[0] * moment
            self.top_rise = rise if self.top_rise is None else max(self.top_rise, rise)
            self.least_top = lag if self.least_top is None else max(self.least_top, lag)
        shown = plan.shown_of(name)
        self.rise = sent - pace[0] * shown
        self.least_end = max(0, lag - pace[0] * (shown - last))

    def end_from(self, lag):
        """The lag at the end of the piece from the lag at its beginning."""
        return max(lag + self.rise, self.least_end)

    def top_from(self, lag):
        """The greatest lag behind a send from the lag at the beginning, None if nothing is sent."""
        return None if self.top_rise is None else max(lag + self.top_rise, self.least_top)

    def misses(self, lag, full):
        """Whether something is missed, with so many points on the screen, from the lag at the beginning."""
        return self.top_rise is not None and self.top_from(lag) > full

    def least_for_end(self, lag):
        """The least lag at the beginning with which the lag at the end is not less than this one."""
        return 0 if self.least_end >= lag else lag - self.rise

    def least_for_top(self, lag):
        """The least lag at the beginning with which one behind a send is not less than this; None if none is."""
        if self.top_rise is None:
            return None
        return 0 if self.least_top >= lag else lag - self.top_rise

    def most_ahead(self, full, limit):
        """The greatest lag at the beginning, up to full, with which nothing is missed and the end keeps to the limit.

        It is -1 if there is none.
        """
        if self.misses(0, full) or self.least_end > limit:
            return -1
        most = min(full, limit - self.rise)
        return most if self.top_rise is None else min(most, full - self.top_rise)


def readings(plan, signs, pace):
    """What each piece does to the lag, at a pace, by the numbers of signs of all cues."""
    return {name: Reading(plan, name, signs, pace) for name in plan.names}


def greatest_top(plan, told):
    """The greatest lag behind a send on any way, if no ring gains, and the least number of pieces of such a way.

    Both are None if nothing is ever sent. Told is what each piece does to the lag.
    """
    best = None
    many = None
    ahead = {name: 0 for name in plan.starts}
    # Without gaining rings the greatest lag comes from a piece to which a way leads straight, straight from there.
    for number in range(1, 2 * len(plan) + 2):
        behind = {}
        for name, lag in ahead.items():
            top = told[name].top_from(lag)
            if top is not None and (best is None or top > best):
                best = top
                many = number
            end = told[name].end_from(lag)
            for follower in plan.followers(name):
                behind[follower] = max(end, behind.get(follower, 0))
        ahead = behind
    return best, many


def least_way_to_top(plan, told, lag, many):
    """The least way of so many pieces with a send in its last piece behind which the lag is not less than this one."""
    needs = [{name: told[name].least_for_top(lag) for name in plan.names}]
    while len(needs) < many:
        behind = needs[-1]
        ahead = {}
        for name in plan.names:
            needed = [behind[other] for other in plan.followers(name) if behind[other] is not None]
            ahead[name] = told[name].least_for_end(min(needed)) if len(needed) > 0 else None
        needs.append(ahead)
    way = []
    lag = 0
    names = sorted(plan.starts)
    for needed in reversed(list(needs)):
        name = min([other for other in names if needed[other] is not None and needed[other] <= lag])
        way.append(name)
        lag = told[name].end_from(lag)
        names = plan.followers(name)
    return tuple(way)
