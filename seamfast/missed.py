"""Whether a reader never misses anything."""

from seamfast.errors import TooMany
from seamfast.forms import is_integer, items_of, parts_of
from seamfast.readers import judge_room, judged_pace, points_of, readings, signs_of
from seamfast.search import WorstSearch

MOST_POINTS = 10000


class Screen:
    """What a piece does to the lag where so many points are on the screen."""

    def __init__(self, reading, full):
        self.reading = reading
        self.full = full

    def fails(self, lag):
        """Whether something is missed from a lag."""
        return self.reading.misses(lag, self.full)

    def state_behind(self, lag):
        """The lag at the end of the piece."""
        return self.reading.end_from(lag)

    def is_worse(self, lag, other):
        """Whether a lag is greater than another one."""
        return lag > other


def screens(plan, pace, full):
    """What each piece does to the lag, at a pace, where so many points are on the screen."""
    told = readings(plan, signs_of(plan), pace)
    return {name: Screen(told[name], full) for name in plan.names}


class NothingMissed:
    """Whether nothing is missed on any way, with the table that shows it, or the least way on which something is."""

    def __init__(self, plan, pace, room):
        kept = judged_pace(pace)
        judge_room(room)
        full = room * points_of(plan, kept)
        if full > MOST_POINTS:
            raise TooMany("point")
        search = WorstSearch(plan, screens(plan, kept, full))
        self.way = search.least_way(0)
        self.table = None
        self._rows = ()
        if self.way is None:
            self._rows = tuple([(name, search.worst[name]) for name in plan.names])
            self.table = self._rows

    def __bool__(self):
        return self.way is None

    def __len__(self):
        return len(self._rows)

    def __iter__(self):
        return iter(self._rows)


def lag_form(plan, thing):
    """The thing as a row of a table of lags, None if it does not have the form."""
    pair = parts_of(thing, 2)
    if pair is None or pair[0] not in plan or not is_integer(pair[1]) or pair[1] < 0:
        return None
    return pair


def keeps_to(told, names, lag, known):
    """Whether nothing is missed in any of these pieces from a lag, and each ends with at most the lag of its row."""
    return all([not told[name].fails(lag) and told[name].state_behind(lag) <= known[name] for name in names])


def judge_lags(plan, pace, room, table):
    """None if the table of lags is right, -1 if it lacks what it must have, or the number of the first wrong row."""
    kept = judged_pace(pace)
    judge_room(room)
    told = screens(plan, kept, room * points_of(plan, kept))
    rows = items_of(table)
    if rows is None:
        return -1
    forms = [lag_form(plan, row) for row in rows]
    known = {}
    for form in forms:
        if form is not None and form[0] not in known:
            known[form[0]] = form[1]
    if len(known) < len(plan) or not keeps_to(told, plan.starts, 0, known):
        return -1
    for number, form in enumerate(forms):
        if form is None or not keeps_to(told, plan.followers(form[0]), form[1], known):
            return number
    return None
