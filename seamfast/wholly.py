"""Desks that know each version whole."""

from seamfast.errors import TooMany
from seamfast.forms import is_within, items_of, parts_of
from seamfast.search import Search
from seamfast.ways import judged_way

MOST_FRONTS = 400


def unbeaten(pairs):
    """Those of the pairs of a lag and coins that none of them beats, ascending."""
    kept = []
    for lag, coins in sorted(set(pairs)):
        # Of several with the same lag the last one has most coins.
        if len(kept) > 0 and kept[-1][0] == lag:
            kept.pop()
        if len(kept) == 0 or coins > kept[-1][1]:
            kept.append((lag, coins))
    return tuple(kept)


def front_behind(desk, pairs, name):
    """The front behind a piece that begins with one of these pairs of a lag and coins."""
    led = []
    for lag, coins in pairs:
        for level in range(desk.levels):
            done = desk.done(name, level, lag, coins)
            if done is not None:
                led.append(done)
    return unbeaten(led)


def beginning(desk):
    """The front ahead of all pieces."""
    return ((0, desk.most),)


def all_fronts(desk):
    """A search through the standings of all ways, where nothing goes on from an empty front but other ones."""
    search = Search()
    for name in sorted(desk.plan.starts):
        search.come_to(name, (name, front_behind(desk, beginning(desk), name)), None)
    full = 0
    at = 0
    while at < len(search.rows):
        name, (_, pairs), _ = search.rows[at]
        full += 1 if len(pairs) > 0 else 0
        if full > MOST_FRONTS:
            raise TooMany("front")
        for follower in desk.plan.followers(name):
            search.come_to(follower, (follower, front_behind(desk, pairs, follower)), at)
        at += 1
    return search


class Wholly:
    """Whether a desk can do all versions, with the table that shows it, or the least version that it cannot do."""

    def __init__(self, desk):
        self.desk = desk
        search = all_fronts(desk)
        undone = [
            number for number, (name, (_, pairs), _) in enumerate(search.rows)
            if name in desk.plan.ends and len(pairs) == 0
        ]
        self.version = None
        self.table = None
        self._rows = ()
        if len(undone) > 0:
            self.version = search.way_to(undone[0])
        else:
            self._rows = tuple([standing for _, standing, _ in search.rows])
            self.table = self._rows

    def front(self, way):
        """The front of a way."""
        pairs = beginning(self.desk)
        for name in judged_way(self.desk.plan, way):
            pairs = front_behind(self.desk, pairs, name)
        return pairs

    def __bool__(self):
        return self.version is None

    def __len__(self):
        return len(self._rows)

    def __iter__(self):
        return iter(self._rows)


def pair_form(desk, thing):
    """The thing as a pair of a lag and coins, None if it is none."""
    pair = parts_of(thing, 2)
    if pair is None or not is_within(pair[0], 0, desk.full_points) or not is_within(pair[1], 0, desk.most):
        return None
    return pair


def front_form(desk, thing):
    """The thing as a row of a table of fronts, None if it does not have the form."""
    parts = parts_of(thing, 2)
    if parts is None or parts[0] not in desk.plan:
        return None
    items = items_of(parts[1])
    if not items:
        return None
    pairs = [pair_form(desk, item) for item in items]
    if None in pairs or tuple(pairs) != unbeaten(pairs):
        return None
    return parts[0], tuple(pairs)


def leads_on(desk, names, pairs, known):
    """Whether the standing behind each of the pieces is known."""
    return all([(name, front_behind(desk, pairs, name)) in known for name in names])


def judge_fronts(desk, table):
    """None if the fronts are right, -1 if they lack a start, otherwise the number of the first wrong row."""
    rows = items_of(table)
    if rows is None:
        return -1
    forms = [front_form(desk, row) for row in rows]
    known = {form: True for form in forms if form is not None}
    if not leads_on(desk, desk.plan.starts, beginning(desk), known):
        return -1
    for number, form in enumerate(forms):
        if form is None or not leads_on(desk, desk.plan.followers(form[0]), form[1], known):
            return number
    return None
