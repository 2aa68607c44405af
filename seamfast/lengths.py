"""How long versions can be, for all lengths however great."""

from math import gcd

from seamfast.errors import BadLength, TooMany
from seamfast.forms import is_integer, is_within, items_of, parts_of

MOST_MOMENTS = 400
MOST_UNITS = 400


def unit_of(plan):
    """The greatest common divisor of the shown lengths of all pieces, in grains."""
    unit = 0
    for name in plan.names:
        unit = gcd(unit, plan.shown_of(name))
    return unit


def units_of(plan):
    """The shown length of each piece, in units."""
    unit = unit_of(plan)
    return {name: plan.shown_of(name) // unit for name in plan.names}


def standing_at_once(plan):
    """The standing of the moment 0."""
    return tuple([(name, 0) for name in sorted(plan.starts)]), False


def standing_behind(plan, units, standing):
    """The standing one unit behind another one."""
    older = [(name, elapsed + 1) for name, elapsed in standing[0]]
    over = [name for name, elapsed in older if elapsed == units[name]]
    going = [(name, elapsed) for name, elapsed in older if elapsed < units[name]]
    begun = sorted(set([other for name in over for other in plan.followers(name)]))
    going.extend([(name, 0) for name in begun])
    return tuple(sorted(going)), any([name in plan.ends for name in over])


def all_standings(plan):
    """The standings of all moments until one comes again, and the number of the one that does."""
    units = units_of(plan)
    standing = standing_at_once(plan)
    known = {}
    while standing not in known:
        if len(known) == MOST_MOMENTS:
            raise TooMany("moment")
        known[standing] = len(known)
        standing = standing_behind(plan, units, standing)
    return tuple(known), known[standing]


def fewest_pieces(plan, units, many):
    """For each number of units up to so many, and each piece, how many pieces a row from it to an end has at least.

    The row is just so long; where there is none, nothing is told.
    """
    fewest = [{}]
    for length in range(1, many + 1):
        row = {}
        for name in plan.names:
            rest = length - units[name]
            if rest == 0 and name in plan.ends:
                row[name] = 1
            elif rest > 0:
                told = [fewest[rest][other] for other in plan.followers(name) if other in fewest[rest]]
                if len(told) > 0:
                    row[name] = min(told) + 1
        fewest.append(row)
    return fewest


def rows_counted(plan, units, many):
    """For each number of units up to so many, and each piece, how many rows from it to an end are just so long."""
    counts = [{name: 0 for name in plan.names}]
    for length in range(1, many + 1):
        row = {}
        for name in plan.names:
            rest = length - units[name]
            row[name] = 1 if rest == 0 and name in plan.ends else 0
            if rest > 0:
                row[name] = sum([counts[rest][other] for other in plan.followers(name)])
        counts.append(row)
    return counts


def least_version_of(plan, units, many):
    """The least version that is just so many units long, or None."""
    fewest = fewest_pieces(plan, units, many)
    version = []
    names = plan.starts
    left = many
    while left > 0:
        told = sorted([(fewest[left][name], name) for name in names if name in fewest[left]])
        if len(told) == 0:
            return None
        _, name = told[0]
        version.append(name)
        left -= units[name]
        names = plan.followers(name)
    return tuple(version) if len(version) > 0 else None


class Lengths:
    """For all lengths, whether some version is just so long."""

    def __init__(self, plan):
        self.plan = plan
        self.unit = unit_of(plan)
        self.table, self.lag = all_standings(plan)
        self.period = len(self.table) - self.lag

    def judged_units(self, length):
        """A length for which versions are told, in units; None if it is no whole number of them."""
        if not is_within(length, 0, MOST_UNITS * self.unit):
            raise BadLength(length)
        return length // self.unit if length % self.unit == 0 else None

    def version_of(self, length):
        """The least version that is just so many grains long, or None."""
        many = self.judged_units(length)
        return None if many is None else least_version_of(self.plan, units_of(self.plan), many)

    def count_of(self, length):
        """How many versions are just so many grains long."""
        many = self.judged_units(length)
        if many is None:
            return 0
        counts = rows_counted(self.plan, units_of(self.plan), many)
        return sum([counts[many][name] for name in self.plan.starts])

    def __contains__(self, x):
        if not is_integer(x) or x < 0 or x % self.unit > 0:
            return False
        moment = x // self.unit
        if moment >= self.lag:
            moment = self.lag + (moment - self.lag) % self.period
        return self.table[moment][1]

    def __len__(self):
        return len(self.table)

    def __iter__(self):
        return iter(self.table)


def pair_form(units, thing):
    """The thing as a piece and for how many units it has been on, None if it is none."""
    pair = parts_of(thing, 2)
    if pair is None or not isinstance(pair[0], str) or pair[0] not in units:
        return None
    return pair if is_within(pair[1], 0, units[pair[0]] - 1) else None


def moment_form(units, thing):
    """The thing as a standing of a moment, None if it is none."""
    parts = parts_of(thing, 2)
    if parts is None or not isinstance(parts[1], bool):
        return None
    items = items_of(parts[0])
    if items is None:
        return None
    pairs = [pair_form(units, item) for item in items]
    if None in pairs or pairs != sorted(set(pairs)):
        return None
    return tuple(pairs), parts[1]


def judge_lengths(plan, lag, table):
    """None if the table is right for a lag, -1 if it begins wrong, or the number of the first row wrongly followed."""
    rows = items_of(table)
    units = units_of(plan)
    if not rows or moment_form(units, rows[0]) != standing_at_once(plan) or not is_within(lag, 0, len(rows) - 1):
        return -1
    forms = [moment_form(units, row) for row in rows]
    for number, form in enumerate(forms):
        follower = forms[number + 1] if number + 1 < len(forms) else forms[lag]
        if form is None or follower != standing_behind(plan, units, form):
            return number
    return None
