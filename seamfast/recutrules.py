"""Whether what a re-cut makes of all versions keeps rules."""

from seamfast.allversions import least_broken, names_behind, steps_from_all
from seamfast.forms import items_of, parts_of
from seamfast.recuts import is_state
from seamfast.rules import row_breaches
from seamfast.standings import broken_at_end, gone_on, standing_form


class Making:
    """How rows that a re-cut makes of ways are shown, by a book and rules, as rows of another plan."""

    def __init__(self, recut, plan, other, book, rules):
        self.recut = recut
        self.plan = plan
        self.other = other
        self.book = book
        self.rules = rules

    def shown_on(self, shown, names):
        """The standing of what is shown behind these names, and whether a rule is broken; None if one is no piece."""
        broken = False
        for name in names:
            if name not in self.other:
                return None
            shown, words = gone_on(self.other, self.book, self.rules, shown, name)
            broken = broken or len(words) > 0
        return shown, broken

    def step_by(self, standing, name):
        """The standing behind a piece, None if it goes wrong, and whether a rule is broken on the way."""
        _, state, shown = (None, 0, None) if standing is None else standing
        step = self.recut.steps.get((state, name))
        led = None if step is None else self.shown_on(shown, step[1])
        return (None, True) if led is None else ((name, step[0], led[0]), led[1])

    def steps_from(self, standing):
        """The steps by all pieces that can follow, ascending; the standing ahead of all pieces is None."""
        return [self.step_by(standing, name) for name in names_behind(self.plan, standing)]

    def ends_badly(self, standing):
        """Whether something goes wrong or a rule is broken if a version ends with this standing."""
        _, state, shown = standing
        out = self.recut.lasts.get(state)
        led = None if out is None else self.shown_on(shown, out)
        if led is None or led[1]:
            return True
        return led[0] is not None and len(broken_at_end(self.other, self.book, self.rules, led[0])) > 0

    def all_steps(self):
        """The steps from each standing of a way."""
        return steps_from_all(lambda standing: self.steps_from(standing))

    def least_version(self, steps):
        """The least version of which no row is made that keeps the rules, or None."""
        return least_broken(self.plan, steps, lambda standing: self.ends_badly(standing))

    def breach_of(self, version):
        """The breach of the row that is made of a version, None if none is made or it has other names."""
        made = self.recut(version)
        if made is None or not all([name in self.other for name in made]):
            return None
        return row_breaches(self.other, self.book, self.rules, made)[0]


class RecutRules:
    """Whether what is made of all versions keeps rules, with the table that shows it, or the least other version."""

    def __init__(self, recut, plan, other, book, rules):
        making = Making(recut, plan, other, book, rules)
        steps = making.all_steps()
        self.version = making.least_version(steps)
        self.breach = None
        self.table = None
        self._rows = ()
        if self.version is None:
            self._rows = tuple([standing for standing in steps if standing is not None])
            self.table = self._rows
        else:
            self.breach = making.breach_of(self.version)

    def __bool__(self):
        return self.version is None

    def __len__(self):
        return len(self._rows)

    def __iter__(self):
        return iter(self._rows)


def shown_form(making, thing):
    """The thing as a row of a table of standings, None if it does not have the form."""
    parts = parts_of(thing, 3)
    if parts is None or parts[0] not in making.plan or not is_state(parts[1]):
        return None
    if parts[2] is None:
        return parts
    shown = standing_form(making.other, making.book, making.rules, parts[2])
    return None if shown is None else (parts[0], parts[1], shown)


def keeps_on(making, standing, known):
    """Whether no rule is broken by going on from a standing, and each standing behind is known."""
    return all([not breaks and behind in known for behind, breaks in making.steps_from(standing)])


def judge_recut(recut, plan, other, book, rules, table):
    """None if the table is right, -1 if it lacks a start, otherwise the number of the first wrong row."""
    making = Making(recut, plan, other, book, rules)
    rows = items_of(table)
    if rows is None:
        return -1
    forms = [shown_form(making, row) for row in rows]
    known = {form: True for form in forms if form is not None}
    if not keeps_on(making, None, known):
        return -1
    for number, form in enumerate(forms):
        if form is None or (form[0] in plan.ends and making.ends_badly(form)) or not keeps_on(making, form, known):
            return number
    return None
