"""Whether two re-cuts make the same of all versions of a plan."""

from seamfast.allversions import MOST_STANDINGS
from seamfast.errors import Stuck, TooMany
from seamfast.forms import is_within, items_of, parts_of
from seamfast.recuts import is_state
from seamfast.reels import is_name
from seamfast.search import Search, way_search

# Both have put out the same.
EVEN = (0, ())


def state_behind(recut, place, name):
    """A piece and the state behind it, None if the re-cut is stuck there or was before; so is the place told."""
    step = None if place[1] is None else recut.steps.get((place[1], name))
    return name, (None if step is None else step[0])


def judge_not_stuck(plan, recut):
    """Raises an error if a re-cut is stuck on a version of the plan."""
    search = way_search(plan, (None, 0), lambda place, name: state_behind(recut, place, name))
    for number, (name, (_, state), _) in enumerate(search.rows):
        if name in plan.ends and state not in recut.lasts:
            raise Stuck(search.way_to(number))


def ahead_behind(ahead, out, other_out):
    """What one has put out beyond the other when both put out more; None if neither begins with the other."""
    side, names = ahead
    left = names + out if side == 0 else out
    right = other_out if side == 0 else names + other_out
    many = min(len(left), len(right))
    if left[:many] != right[:many]:
        return None
    return (0, left[many:]) if len(left) >= len(right) else (1, right[many:])


def pair_behind(first, second, standing, name):
    """The standing behind a piece, None if an entry lacks; the standing ahead of all pieces is None."""
    _, state, other, ahead = (None, 0, 0, EVEN) if standing is None else standing
    step = first.steps.get((state, name))
    other_step = second.steps.get((other, name))
    if step is None or other_step is None:
        return None
    behind = None if ahead is None else ahead_behind(ahead, step[1], other_step[1])
    return name, step[0], other_step[0], behind


def end_alike(first, second, standing):
    """Whether both have made the same if a version ends with this standing."""
    _, state, other, ahead = standing
    if ahead is None or state not in first.lasts or other not in second.lasts:
        return False
    return ahead_behind(ahead, first.lasts[state], second.lasts[other]) == EVEN


class PairSearch:
    """The standings of ways, level by level: those of ways of one piece, then those that longer ways lead to."""

    def __init__(self, plan, first, second):
        self.plan = plan
        self.first = first
        self.second = second
        self.search = Search()

    def go_on(self, standing, names, at):
        """Takes up the standings behind some pieces."""
        for name in names:
            self.search.come_to(name, pair_behind(self.first, self.second, standing, name), at)

    def least_parting(self):
        """The least version of which both do not make the same, or None."""
        self.go_on(None, sorted(self.plan.starts), None)
        begun = 0
        while begun < len(self.search.rows):
            end = len(self.search.rows)
            if end > MOST_STANDINGS:
                raise TooMany("standing")
            for at in range(begun, end):
                name, standing, _ = self.search.rows[at]
                if name in self.plan.ends and not end_alike(self.first, self.second, standing):
                    return self.search.way_to(at)
            for at in range(begun, end):
                name, standing, _ = self.search.rows[at]
                self.go_on(standing, self.plan.followers(name), at)
            begun = end
        return None


class RecutPair:
    """Whether two re-cuts are alike on a plan, with the table that shows it, or the least version that parts them."""

    def __init__(self, plan, first, second):
        judge_not_stuck(plan, first)
        judge_not_stuck(plan, second)
        pairs = PairSearch(plan, first, second)
        self.version = pairs.least_parting()
        self.table = None
        self._rows = ()
        if self.version is None:
            self._rows = tuple([standing for _, standing, _ in pairs.search.rows])
            self.table = self._rows

    def __bool__(self):
        return self.version is None

    def __len__(self):
        return len(self._rows)

    def __iter__(self):
        return iter(self._rows)


def ahead_form(thing):
    """The thing as what one has put out beyond the other, None if it is none."""
    pair = parts_of(thing, 2)
    names = None if pair is None else items_of(pair[1])
    if names is None or not is_within(pair[0], 0, 1) or not all([is_name(name) for name in names]):
        return None
    return None if pair[0] == 1 and len(names) == 0 else (pair[0], names)


def pair_form(plan, thing):
    """The thing as a row of a table of standings, None if it does not have the form."""
    parts = parts_of(thing, 4)
    if parts is None or parts[0] not in plan or not is_state(parts[1]) or not is_state(parts[2]):
        return None
    ahead = ahead_form(parts[3])
    return None if ahead is None else parts[:3] + (ahead,)


def leads_to_pairs(first, second, standing, names, known):
    """Whether the standing behind each of these pieces is known."""
    return all([pair_behind(first, second, standing, name) in known for name in names])


def judge_pair(plan, first, second, table):
    """None if the table is right, -1 if it lacks a start, otherwise the number of the first wrong row."""
    rows = items_of(table)
    if rows is None:
        return -1
    forms = [pair_form(plan, row) for row in rows]
    known = {form: True for form in forms if form is not None}
    if not leads_to_pairs(first, second, None, plan.starts, known):
        return -1
    for number, form in enumerate(forms):
        if form is None or (form[0] in plan.ends and not end_alike(first, second, form)):
            return number
        if not leads_to_pairs(first, second, form, plan.followers(form[0]), known):
            return number
    return None
