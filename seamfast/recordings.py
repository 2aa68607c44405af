"""Which rows explain the texts that a watcher heard."""

from seamfast.errors import BadDelay, BadHeard, TooMany
from seamfast.forms import is_integer, is_within, items_of, parts_of
from seamfast.reels import is_text
from seamfast.sendings import MOST_DELAY, judge_not_silent, names_from_behind
from seamfast.spells import joined, moved, shared

MOST_HEARD = 24
MOST_MOMENT = 1000000000
MOST_EXPLANATIONS = 400


def judged_heard(heard):
    """What was heard, as tuples."""
    items = items_of(heard)
    if items is None or not 1 <= len(items) <= MOST_HEARD:
        raise BadHeard(-1)
    judged = []
    last = 0
    for number, thing in enumerate(items):
        pair = parts_of(thing, 2)
        if pair is None or not is_text(pair[0]) or not is_within(pair[1], last, MOST_MOMENT):
            raise BadHeard(number)
        judged.append(pair)
        last = pair[1]
    return tuple(judged)


class Listening:
    """At which moments on the watcher's clock pieces can begin, so that what was heard is explained from there on."""

    def __init__(self, plan, heard, least, most):
        self.plan = plan
        self.heard = heard
        self.least = least
        self.most = most
        # For each number of texts that were heard ahead, and each piece, the spells of these moments.
        self.begun = [{} for _ in heard]
        names = names_from_behind(plan)
        for first in reversed(range(len(heard))):
            for name in names:
                self.begun[first][name] = self.spells_from(name, first, 0)

    def spells_from(self, name, first, skipped):
        """The spells for a piece, the first sends of which are skipped, if so many texts were heard ahead."""
        sends = self.plan.sends_of(name)[skipped:]
        # None: nothing that was heard is sent in this piece.
        window = None
        for (cue, time), (text, moment) in zip(sends, self.heard[first:]):
            if self.plan.reel.cues[cue][3] != text:
                return []
            low = moment - time - self.most
            high = moment - time - self.least
            window = (low, high) if window is None else (max(low, window[0]), min(high, window[1]))
        behind = first + len(sends)
        if window is not None and window[0] > window[1]:
            return []
        if behind >= len(self.heard):
            return [window]
        shown = self.plan.shown_of(name)
        found = []
        for other in self.plan.followers(name):
            found.extend(moved(self.begun[behind][other], -shown))
        return joined(found) if window is None else shared(joined(found), [window])

    def sent_by(self, skipped, row):
        """The number of texts that are sent in a row, but for those that are skipped."""
        return sum([len(self.plan.sends_of(name)) for name in row]) - skipped

    def beginnings(self, tuned):
        """The beginnings of explanations by one piece, each with the spells of moments at which it can begin."""
        if not tuned:
            led = [(0, (name,), self.begun[0][name]) for name in sorted(self.plan.starts)]
        else:
            led = [
                (skipped, (name,), self.spells_from(name, 0, skipped))
                for name in sorted(self.plan.names) for skipped in range(len(self.plan.sends_of(name)))
            ]
        return [row for row in led if len(row[2]) > 0]

    def longer_by_one(self, skipped, row, spells):
        """What a beginning of an explanation leads to by one piece more, told in the same way."""
        last = row[-1]
        begun = moved(spells, self.plan.shown_of(last))
        behind = self.begun[self.sent_by(skipped, row)]
        led = [(skipped, row + (name,), shared(begun, behind[name])) for name in self.plan.followers(last)]
        return [longer for longer in led if len(longer[2]) > 0]

    def all_explanations(self, tuned):
        """All explanations that fit, in their order, each with the spell of the moments at which its last piece begins.

        Each beginning that is kept leads to some explanation, and no two lead to the same one.
        """
        found = []
        begun = self.beginnings(tuned)
        while len(begun) > 0:
            if len(found) + len(begun) > MOST_EXPLANATIONS:
                raise TooMany("explanation")
            longer = []
            for skipped, row, spells in begun:
                if self.sent_by(skipped, row) >= len(self.heard):
                    found.append((row, skipped, spells[0]))
                else:
                    longer.extend(self.longer_by_one(skipped, row, spells))
            begun = longer
        return sorted(found, key=lambda told: (len(told[0]), told))

    def places_of(self, skipped, row):
        """The places at which the texts that were heard are sent in an explanation."""
        places = [(name, number) for name in row for number in range(len(self.plan.sends_of(name)))]
        return places[skipped:skipped + len(self.heard)]

    def beginning_of(self, row, spell):
        """The least and the greatest beginning of a row from the moments at which its last piece begins."""
        ahead = sum([self.plan.shown_of(name) for name in row[:-1]])
        return spell[0] - ahead, spell[1] - ahead


def common_places(rows):
    """For each number of a place in these rows, the place that all of them have there, or None."""
    return [places[0] if all([place == places[0] for place in places]) else None for places in zip(*rows)]


class Recording:
    """What was heard, and all explanations of it that fit."""

    def __init__(self, plan, heard, least, most, *, tuned=False):
        self.plan = plan
        self.heard = judged_heard(heard)
        if not is_within(least, 0, MOST_DELAY):
            raise BadDelay(least)
        if not is_within(most, least, MOST_DELAY):
            raise BadDelay(most)
        self.least = least
        self.most = most
        self.tuned = tuned
        judge_not_silent(plan)
        listening = Listening(plan, self.heard, least, most)
        found = listening.all_explanations(tuned)
        self.number = len(found)
        self.explanations = tuple([(skipped, row) for row, skipped, _ in found])
        self.sure = (None,) * len(self.heard)
        self.beginning = None
        if len(found) > 0:
            self.sure = tuple(common_places([listening.places_of(skipped, row) for row, skipped, _ in found]))
            begun = [listening.beginning_of(row, spell) for row, _, spell in found]
            self.beginning = (min([low for low, _ in begun]), max([high for _, high in begun]))

    def __contains__(self, x):
        pair = parts_of(x, 2)
        return pair is not None and is_integer(pair[0]) and (pair[0], items_of(pair[1])) in self.explanations

    def __len__(self):
        return len(self.explanations)

    def __iter__(self):
        return iter(self.explanations)
