"""Whether a re-cut carries a plan to another plan."""

from seamfast.forms import items_of, parts_of
from seamfast.recuts import is_state
from seamfast.search import way_search


def can_follow(other, last, names):
    """Whether the names, put out one by one behind the last one, go on along the other plan; None: nothing was."""
    for name in names:
        if name not in other:
            return False
        if name not in (other.starts if last is None else other.followers(last)):
            return False
        last = name
    return True


def last_of(last, names):
    """The name that is put out last."""
    return names[-1] if len(names) > 0 else last


def carried_on(recut, other, standing, name):
    """The standing behind a piece, None if it goes wrong; the standing ahead of all pieces is None."""
    _, state, last = (None, 0, None) if standing is None else standing
    step = recut.steps.get((state, name))
    if step is None or not can_follow(other, last, step[1]):
        return None
    return name, step[0], last_of(last, step[1])


def ends_well(recut, other, standing):
    """Whether a version that ends with this standing is carried to a version."""
    _, state, last = standing
    out = recut.lasts.get(state)
    return out is not None and can_follow(other, last, out) and last_of(last, out) in other.ends


def kept_wrong(recut, other, state, name):
    """The standing behind a piece as a pair with the piece; the standing is None if it goes wrong, then or before."""
    if state is not None and state[1] is None:
        return name, None
    return name, carried_on(recut, other, None if state is None else state[1], name)


def carry_search(recut, plan, other):
    """A search through the standings of all ways."""
    return way_search(plan, None, lambda state, name: kept_wrong(recut, other, state, name))


class Carries:
    """Whether a re-cut carries a plan to another one, with the table that shows it, or the least version not so."""

    def __init__(self, recut, plan, other):
        search = carry_search(recut, plan, other)
        wrong = [
            number for number, (name, (_, standing), _) in enumerate(search.rows)
            if name in plan.ends and (standing is None or not ends_well(recut, other, standing))
        ]
        self.version = None
        self.table = None
        self._rows = ()
        if len(wrong) > 0:
            self.version = search.way_to(wrong[0])
        else:
            self._rows = tuple([standing for _, (_, standing), _ in search.rows])
            self.table = self._rows

    def __bool__(self):
        return self.version is None

    def __len__(self):
        return len(self._rows)

    def __iter__(self):
        return iter(self._rows)


def carry_form(plan, other, thing):
    """The thing as a row of a table of standings, None if it does not have the form."""
    parts = parts_of(thing, 3)
    if parts is None or parts[0] not in plan or not is_state(parts[1]):
        return None
    return parts if parts[2] is None or parts[2] in other else None


def leads_to_known(recut, other, standing, names, known):
    """Whether nothing goes wrong by going on by each of these pieces, and the standing behind is known."""
    return all([carried_on(recut, other, standing, name) in known for name in names])


def judge_carries(recut, plan, other, table):
    """None if the table is right, -1 if it lacks a start, otherwise the number of the first wrong row."""
    rows = items_of(table)
    if rows is None:
        return -1
    forms = [carry_form(plan, other, row) for row in rows]
    known = {form: True for form in forms if form is not None}
    if not leads_to_known(recut, other, None, plan.starts, known):
        return -1
    for number, form in enumerate(forms):
        if form is None or (form[0] in plan.ends and not ends_well(recut, other, form)):
            return number
        if not leads_to_known(recut, other, form, plan.followers(form[0]), known):
            return number
    return None
