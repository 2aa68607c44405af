"""Re-cuts: machines that turn a row of names into another one."""

from seamfast.errors import BadEntry, BadTail, TooMany
from seamfast.forms import is_within, items_of, parts_of
from seamfast.reels import is_name

MOST_STATES = 36
MOST_NAMES_OUT = 12
MOST_ENTRIES = 200


def is_state(thing):
    """Whether this is a state."""
    return is_within(thing, 0, MOST_STATES - 1)


def out_of(thing):
    """The thing as a tuple of names that are put out at once, None if it is none."""
    names = items_of(thing)
    if names is None or len(names) > MOST_NAMES_OUT or not all([is_name(name) for name in names]):
        return None
    return names


def entry_of(thing):
    """The thing as an entry, None if it is none."""
    parts = parts_of(thing, 4)
    if parts is None:
        return None
    state, name, behind, put = parts
    out = out_of(put)
    if not is_state(state) or not is_name(name) or not is_state(behind) or out is None:
        return None
    return state, name, behind, out


def tail_of(thing):
    """The thing as a tail, None if it is none."""
    pair = parts_of(thing, 2)
    if pair is None or not is_state(pair[0]):
        return None
    out = out_of(pair[1])
    return None if out is None else (pair[0], out)


def judged_entries(entries):
    """The entries, as tuples."""
    items = items_of(entries)
    if items is None:
        raise BadEntry(-1)
    judged = []
    known = {}
    for number, thing in enumerate(items):
        entry = entry_of(thing)
        if entry is None or entry[:2] in known:
            raise BadEntry(number)
        known[entry[:2]] = True
        judged.append(entry)
    if len(judged) > MOST_ENTRIES:
        raise TooMany("entry")
    return tuple(judged)


def judged_tails(tails):
    """The tails, as tuples."""
    items = items_of(tails)
    if items is None:
        raise BadTail(-1)
    judged = []
    known = {}
    for number, thing in enumerate(items):
        tail = tail_of(thing)
        if tail is None or tail[0] in known:
            raise BadTail(number)
        known[tail[0]] = True
        judged.append(tail)
    return tuple(judged)


def gone_through(recut, state, names):
    """The state behind some names and what is put out for them, None if there is no entry for one."""
    out = []
    for name in names:
        step = recut.steps.get((state, name))
        if step is None:
            return None
        state = step[0]
        out.extend(step[1])
    return state, tuple(out)


def ended_through(recut, state, names):
    """What is put out for the last names and by the tail behind them, None if the re-cut is stuck."""
    led = gone_through(recut, state, names)
    if led is None or led[0] not in recut.lasts:
        return None
    return led[1] + recut.lasts[led[0]]


def one_behind_other(first, second):
    """The entries and tails of two re-cuts, the row that the first one makes going through the second one."""
    pairs = [(0, 0)]
    numbers = {(0, 0): 0}
    made = []
    ended = []
    at = 0
    while at < len(pairs):
        state, other = pairs[at]
        for ahead, name, behind, out in first.entries:
            led = gone_through(second, other, out) if ahead == state else None
            if led is None:
                continue
            pair = (behind, led[0])
            if pair not in numbers:
                numbers[pair] = len(pairs)
                pairs.append(pair)
            made.append((at, name, numbers[pair], led[1]))
        if len(pairs) > MOST_STATES:
            raise TooMany("state")
        last = ended_through(second, other, first.lasts[state]) if state in first.lasts else None
        if last is not None:
            ended.append((at, last))
        at += 1
    return made, ended


class Recut:
    """A re-cut, which is called with the row that goes through it."""

    def __init__(self, entries, tails):
        self.entries = judged_entries(entries)
        self.tails = judged_tails(tails)
        # The state behind and what is put out, for each state and name; what is put out at the end of each state.
        self.steps = {(state, name): (behind, out) for state, name, behind, out in self.entries}
        self.lasts = {state: out for state, out in self.tails}

    @staticmethod
    def same(names):
        """The re-cut that makes of each row of these names this row."""
        return Recut([(0, name, 0, (name,)) for name in names], ((0, ()),))

    def __call__(self, row):
        return ended_through(self, 0, items_of(row))

    def __add__(self, other):
        entries, tails = one_behind_other(self, other)
        for row in entries + tails:
            if len(row[-1]) > MOST_NAMES_OUT:
                raise TooMany("name")
        return Recut(entries, tails)

    def __len__(self):
        return len(self.entries)

    def __eq__(self, other):
        return isinstance(other, Recut) and self.entries == other.entries and self.tails == other.tails
