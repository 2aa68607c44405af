"""Standings: what counts, of a way that was shown, for all that can follow."""

from seamfast.errors import Unknown
from seamfast.forms import is_within, items_of, parts_of
from seamfast.rules import length_words, slow_enough
from seamfast.ways import judged_way


def horizon(plan, book, rules):
    """The greatest number of grains that counts for the book and the rules."""
    ticks = [book.least, book.close, rules.short, rules.gap, rules.again]
    if rules.long is not None:
        ticks.append(rules.long)
    grains = [plan.grain * number for number in ticks]
    if rules.pace is not None:
        grains.extend([slow_enough(plan, rules.pace, cue) for cue in range(len(plan.reel.cues))])
    return max(grains)


class Course:
    """How a way goes on by one piece, with all moments in grains from the beginning of the piece.

    The moments of what was shown ahead of it are not above 0. So nothing has to grow with the time.
    """

    def __init__(self, plan, book, rules):
        self.plan = plan
        self.rules = rules
        self.least = book.least * plan.grain
        self.close = book.close * plan.grain
        self.gap = rules.gap * plan.grain
        self.again = rules.again * plan.grain
        self.most = horizon(plan, book, rules) + 1
        # The cue of the pending showing and when it came on, or None.
        self.waiting = None
        # The cue of the open showing, when it came on and when it went off, or None.
        self.carrying = None
        # When the last carried showing of each other cue went off.
        self.last_ends = {}
        # The showings that were open and are over, as the open one is told.
        self.overs = []
        self.broken = []

    def begin_at(self, standing):
        """Takes up a standing at the beginning of the piece."""
        _, pending, carrying, ages = standing
        edge = 0
        if pending is not None:
            edge = -pending[1]
            self.waiting = (pending[0], edge)
        if carrying is not None:
            cue, length, gap = carrying
            self.carrying = (cue, edge - gap - length, edge - gap)
        self.last_ends = {other: edge - age for other, age in ages}

    def is_on(self, cue):
        """Whether the open showing is of this cue and on the screen at the beginning of the piece."""
        return self.carrying is not None and self.carrying[0] == cue and self.carrying[2] == 0

    def go_through(self, name):
        """Goes through the strip of the piece."""
        waiting = self.waiting
        self.waiting = None
        for cue, on, off in self.plan.strip_of(name):
            begun = on
            if on == 0 and waiting is None and self.is_on(cue):
                self.carrying = (cue, self.carrying[1], off)
                continue
            if on == 0 and waiting is not None and waiting[0] == cue:
                begun = waiting[1]
            if off - begun >= self.least:
                self.take_up(cue, begun, off)
            elif off == self.plan.shown_of(name):
                self.waiting = (cue, begun)

    def take_up(self, cue, begun, over):
        """Takes up a showing that is long enough."""
        if self.carrying is not None:
            last, since, end = self.carrying
            if last == cue and begun - end < self.close:
                self.carrying = (cue, since, over)
                return
            if begun - end < self.close:
                end = begun
            self.overs.append((last, since, end))
            self.broken.extend(length_words(self.plan, self.rules, last, end - since))
            self.last_ends[last] = end
            if 0 < begun - end < self.gap:
                self.broken.append("gap")
        if cue in self.last_ends:
            if begun - self.last_ends[cue] < self.again:
                self.broken.append("again")
            del self.last_ends[cue]
        self.carrying = (cue, begun, over)

    def standing_at_end(self, name):
        """The standing at the end of the piece."""
        edge = self.plan.shown_of(name)
        pending = None
        if self.waiting is not None:
            pending = (self.waiting[0], edge - self.waiting[1])
            edge = self.waiting[1]
        if self.carrying is None:
            return name, pending, None, ()
        cue, since, end = self.carrying
        ages = [(other, edge - last) for other, last in self.last_ends.items() if edge - last < self.again]
        return name, pending, (cue, min(end - since, self.most), min(edge - end, self.most)), tuple(sorted(ages))


def gone_on(plan, book, rules, standing, name):
    """The standing behind a piece, and the words broken on the way; the standing ahead of all pieces is None."""
    if name not in plan:
        raise Unknown(name)
    course = Course(plan, book, rules)
    if standing is not None:
        course.begin_at(standing)
    course.go_through(name)
    return course.standing_at_end(name), tuple(sorted(set(course.broken)))


def standing_of(plan, book, rules, way):
    """The standing of a way."""
    standing = None
    for name in judged_way(plan, way):
        standing, _ = gone_on(plan, book, rules, standing, name)
    return standing


def broken_at_end(plan, book, rules, standing):
    """The words that the open showing breaks if a version ends with this standing."""
    carrying = standing[2]
    if carrying is None:
        return ()
    return length_words(plan, rules, carrying[0], carrying[1])


def age_form(thing, cues, again):
    """The thing as a pair of a cue and an age, None if it is none."""
    pair = parts_of(thing, 2)
    if pair is None or not is_within(pair[0], 0, cues - 1) or not is_within(pair[1], 0, again - 1):
        return None
    return pair


def ages_form(things, carrying, cues, again):
    """The things as the ages of a standing, None if they are none."""
    items = items_of(things)
    if items is None or (carrying is None and len(items) > 0):
        return None
    ages = [age_form(thing, cues, again) for thing in items]
    if None in ages:
        return None
    last = -1
    for cue, _ in ages:
        if cue <= last or cue == carrying[0]:
            return None
        last = cue
    return tuple(ages)


def pending_form(thing, cues, least):
    """The thing as what is pending, None if it is none."""
    pair = parts_of(thing, 2)
    if pair is None or not is_within(pair[0], 0, cues - 1) or not is_within(pair[1], 1, least - 1):
        return None
    return pair


def carrying_form(thing, cues, most):
    """The thing as an open showing, None if it is none."""
    parts = parts_of(thing, 3)
    if parts is None or not is_within(parts[0], 0, cues - 1):
        return None
    if not is_within(parts[1], 1, most) or not is_within(parts[2], 0, most):
        return None
    return parts


def standing_form(plan, book, rules, thing):
    """The thing as a standing, with tuples throughout, None if it does not have the form."""
    parts = parts_of(thing, 4)
    if parts is None or parts[0] not in plan:
        return None
    cues = len(plan.reel.cues)
    name, pending, carrying, ages = parts
    if pending is not None:
        pending = pending_form(pending, cues, book.least * plan.grain)
        if pending is None:
            return None
    if carrying is not None:
        carrying = carrying_form(carrying, cues, horizon(plan, book, rules) + 1)
        if carrying is None:
            return None
    ages = ages_form(ages, carrying, cues, rules.again * plan.grain)
    if ages is None:
        return None
    return name, pending, carrying, ages
