"""Whether all versions of a plan keep rules."""

from seamfast.errors import TooMany
from seamfast.forms import items_of
from seamfast.rules import row_breaches
from seamfast.search import Search
from seamfast.standings import broken_at_end, gone_on, standing_form

MOST_STANDINGS = 400


def names_behind(plan, standing):
    """The names of the pieces that can follow, ascending; the standing ahead of all pieces is None."""
    return tuple(sorted(plan.starts)) if standing is None else plan.followers(standing[0])


def steps_from(plan, book, rules, standing):
    """For each piece that can follow, ascending, the standing behind it, and whether a rule is broken on the way."""
    steps = []
    for name in names_behind(plan, standing):
        behind, words = gone_on(plan, book, rules, standing, name)
        steps.append((behind, len(words) > 0))
    return steps


def steps_from_all(steps_behind):
    """The steps from each standing that is led to, ordered by least ways, and ahead of all from None, the beginning.

    Told is, by `steps_behind(standing)`, for each piece that can follow the standing behind, None if it goes wrong,
    and whether a rule is broken on the way.
    """
    order = [None]
    known = {None: True}
    steps = {}
    at = 0
    while at < len(order):
        led = steps_behind(order[at])
        steps[order[at]] = led
        for behind, _ in led:
            if behind is not None and behind not in known:
                known[behind] = True
                order.append(behind)
        if len(order) - 1 > MOST_STANDINGS:
            raise TooMany("standing")
        at += 1
    return steps


def all_steps(plan, book, rules):
    """The steps from each standing of a way."""
    return steps_from_all(lambda standing: steps_from(plan, book, rules, standing))


def breaks_by_ending(plan, book, rules, standing):
    """Whether a version can end with this standing, and breaks a rule by it."""
    return standing[0] in plan.ends and len(broken_at_end(plan, book, rules, standing)) > 0


def least_broken(plan, steps, ends_badly):
    """The least version on which something goes wrong or is broken, on the way or as `ends_badly(standing)` tells.

    It is None if there is none. Told are all steps; behind one that goes wrong, everything is wrong.
    """
    search = Search()
    for name, (behind, breaks) in zip(names_behind(plan, None), steps[None]):
        search.come_to(name, (name, behind, breaks), None)
    at = 0
    while at < len(search.rows):
        last, (_, standing, broken), _ = search.rows[at]
        if last in plan.ends and (broken or ends_badly(standing)):
            return search.way_to(at)
        names = plan.followers(last)
        led = [(None, True) for _ in names] if standing is None else steps[standing]
        for name, (behind, breaks) in zip(names, led):
            search.come_to(name, (name, behind, broken or breaks), at)
        at += 1
    return None


def least_version_broken(plan, book, rules, steps):
    """The least version that does not keep the rules, or None."""
    return least_broken(plan, steps, lambda standing: breaks_by_ending(plan, book, rules, standing))


class AllVersions:
    """Whether all versions keep the rules, with the table that shows it, or the least version that does not."""

    def __init__(self, plan, book, rules):
        steps = all_steps(plan, book, rules)
        self.version = least_version_broken(plan, book, rules, steps)
        self.breach = None
        self.table = None
        self._rows = ()
        if self.version is None:
            self._rows = tuple([standing for standing in steps if standing is not None])
            self.table = self._rows
        else:
            self.breach = row_breaches(plan, book, rules, self.version)[0]

    def __bool__(self):
        return self.version is None

    def __len__(self):
        return len(self._rows)

    def __iter__(self):
        return iter(self._rows)


def is_right_row(plan, book, rules, standing, known):
    """Whether a row of a table of standings is right by itself."""
    if breaks_by_ending(plan, book, rules, standing):
        return False
    return all([not breaks and behind in known for behind, breaks in steps_from(plan, book, rules, standing)])


def judge_standings(plan, book, rules, table):
    """None if the table of standings is right, -1 if it lacks a start, otherwise the number of the first wrong row."""
    rows = items_of(table)
    if rows is None:
        return -1
    forms = [standing_form(plan, book, rules, row) for row in rows]
    known = {form: True for form in forms if form is not None}
    for behind, breaks in steps_from(plan, book, rules, None):
        if breaks or behind not in known:
            return -1
    for number, form in enumerate(forms):
        if form is None or not is_right_row(plan, book, rules, form, known):
            return number
    return None
