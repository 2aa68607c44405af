"""How far two rooms that show the same pieces drift apart."""

from seamfast.forms import is_integer, items_of, parts_of
from seamfast.rings import Rings
from seamfast.rooms import drift_spans, judge_limit, judged_meets, judged_rates, parts_of_tick, piece_drifts
from seamfast.search import Search
from seamfast.ways import judged_row, way_key


def least_drifting_ring(plan, drifts, meets):
    """The least ring without a meet whose drift is not 0, or None."""
    behind = {
        name: tuple([other for other in plan.followers(name) if (name, other) not in meets]) for name in plan.names
    }
    turned = {name: -drift for name, drift in drifts.items()}
    rings = [Rings(behind, drifts).least_ring(1), Rings(behind, turned).least_ring(1)]
    return min([ring for ring in rings if ring is not None], key=way_key, default=None)


class Drift:
    """Whether the drift is bounded for all ways, with the table that shows it, or the least ring that drifts."""

    def __init__(self, plan, rates, meets=()):
        self.plan = plan
        self.rates = judged_rates(plan, rates)
        self.meets = judged_meets(plan, meets)
        self.parts = parts_of_tick(plan, self.rates)
        self._drifts = piece_drifts(plan, self.rates)
        self.table = drift_spans(plan, self._drifts, self.meets)
        self.ring = None
        self.gain = None
        self._rows = ()
        if self.table is not None:
            self._rows = self.table
        else:
            self.ring = least_drifting_ring(plan, self._drifts, self.meets)
            self.gain = sum([self._drifts[name] for name in self.ring])

    def drift_behind(self, last, drift, name):
        """The drift at the end of a piece behind the last one, which ends with a drift; None: there is no last one."""
        if last is None or (last, name) in self.meets:
            return self._drifts[name]
        return drift + self._drifts[name]

    def beyond(self, limit):
        """The least way at whose end the drift, or its negative, is greater than the limit, or None."""
        judge_limit(limit)
        search = Search()
        names = sorted(self.plan.starts)
        last = None
        drift = None
        at = None
        while True:
            for name in names:
                behind = self.drift_behind(last, drift, name)
                if not -limit <= behind <= limit:
                    return search.way_to(at) + (name,)
                search.come_to(name, (name, behind), at)
            at = 0 if at is None else at + 1
            if at == len(search.rows):
                return None
            last, (_, drift), _ = search.rows[at]
            names = self.plan.followers(last)

    def drift_of(self, row):
        """The drift at the end of a row, as if it were a way."""
        last = None
        drift = None
        for name in judged_row(self.plan, row):
            drift = self.drift_behind(last, drift, name)
            last = name
        return drift

    def __bool__(self):
        return self.table is not None

    def __len__(self):
        return len(self._rows)

    def __iter__(self):
        return iter(self._rows)


def span_form(plan, thing):
    """The thing as a row of a table of drifts, None if it does not have the form."""
    parts = parts_of(thing, 3)
    if parts is None or parts[0] not in plan or not is_integer(parts[1]) or not is_integer(parts[2]):
        return None
    return parts


def lies_in(spans, name, low, high):
    """Whether both drifts lie in the span of a piece."""
    least, greatest = spans[name]
    return least <= low <= greatest and least <= high <= greatest


def judge_drifts(plan, rates, meets, table):
    """None if the table of drifts is right, -1 if it lacks what it must have, or the number of the first wrong row."""
    drifts = piece_drifts(plan, judged_rates(plan, rates))
    kept = judged_meets(plan, meets)
    rows = items_of(table)
    if rows is None:
        return -1
    forms = [span_form(plan, row) for row in rows]
    spans = {}
    for form in forms:
        if form is not None and form[0] not in spans:
            spans[form[0]] = form[1:]
    if len(spans) < len(plan) or not all([lies_in(spans, name, drifts[name], drifts[name]) for name in plan.starts]):
        return -1
    for number, form in enumerate(forms):
        if form is None or not is_right_span(plan, drifts, kept, form, spans):
            return number
    return None


def is_right_span(plan, drifts, meets, form, spans):
    """Whether a row of a table of drifts is right by itself."""
    name, low, high = form
    for other in plan.followers(name):
        drift = drifts[other]
        begun = (0, 0) if (name, other) in meets else (low, high)
        if not lies_in(spans, other, begun[0] + drift, begun[1] + drift):
            return False
    return True
