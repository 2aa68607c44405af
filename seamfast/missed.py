"""Whether a reader never misses anything."""

from seamfast.errors import TooMany
from seamfast.forms import is_integer, items_of, parts_of
from seamfast.readers import judge_room, judged_pace, points_of, readings, signs_of
from seamfast.search import Search

MOST_POINTS = 10000


class MissedSearch:
    """A search for a way on which something is missed.

    A way is gone on with only if it comes to its last piece with a greater lag than all lesser ways:
    otherwise one of those misses something with whatever follows, too.
    """

    def __init__(self, plan, told, full):
        self.plan = plan
        self.told = told
        self.full = full
        # The greatest lag at the end of each piece.
        self.most = {}
        self.search = Search()

    def go_on(self, names, lag, at):
        """Goes on by each of the pieces; tells the first one in which something is missed, or None."""
        for name in names:
            reading = self.told[name]
            if reading.misses(lag, self.full):
                return name
            end = reading.end_from(lag)
            if end > self.most.get(name, -1):
                self.most[name] = end
                self.search.put(name, end, at)
        return None

    def least_missed(self):
        """The least way on which something is missed, or None."""
        missed = self.go_on(sorted(self.plan.starts), 0, None)
        if missed is not None:
            return (missed,)
        at = 0
        while at < len(self.search.rows):
            name, lag, _ = self.search.rows[at]
            missed = self.go_on(self.plan.followers(name), lag, at)
            if missed is not None:
                return self.search.way_to(at) + (missed,)
            at += 1
        return None


class NothingMissed:
    """Whether nothing is missed on any way, with the table that shows it, or the least way on which something is."""

    def __init__(self, plan, pace, room):
        kept = judged_pace(pace)
        judge_room(room)
        full = room * points_of(plan, kept)
        if full > MOST_POINTS:
            raise TooMany("point")
        search = MissedSearch(plan, readings(plan, signs_of(plan), kept), full)
        self.way = search.least_missed()
        self.table = None
        self._rows = ()
        if self.way is None:
            self._rows = tuple([(name, search.most[name]) for name in plan.names])
            self.table = self._rows

    def __bool__(self):
        return self.way is None

    def __len__(self):
        return len(self._rows)

    def __iter__(self):
        return iter(self._rows)


def lag_form(plan, thing):
    """The thing as a row of a table of lags, None if it does not have the form."""
    pair = parts_of(thing, 2)
    if pair is None or pair[0] not in plan or not is_integer(pair[1]) or pair[1] < 0:
        return None
    return pair


def keeps_to(told, full, names, lag, known):
    """Whether nothing is missed in any of these pieces from a lag, and each ends with at most the lag of its row."""
    return all([
        not told[name].misses(lag, full) and told[name].end_from(lag) <= known[name] for name in names
    ])


def judge_lags(plan, pace, room, table):
    """None if the table of lags is right, -1 if it lacks what it must have, or the number of the first wrong row."""
    kept = judged_pace(pace)
    judge_room(room)
    full = room * points_of(plan, kept)
    told = readings(plan, signs_of(plan), kept)
    rows = items_of(table)
    if rows is None:
        return -1
    forms = [lag_form(plan, row) for row in rows]
    known = {}
    for form in forms:
        if form is not None and form[0] not in known:
            known[form[0]] = form[1]
    if len(known) < len(plan) or not keeps_to(told, full, plan.starts, 0, known):
        return -1
    for number, form in enumerate(forms):
        if form is None or not keeps_to(told, full, plan.followers(form[0]), form[1], known):
            return number
    return None
