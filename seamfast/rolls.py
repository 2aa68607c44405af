"""Rolls: rows, also very long ones, written with repeats."""

from seamfast.errors import BadItem, NoPlace, TooLong, TooMany
from seamfast.forms import fraction, is_integer, is_within, items_of, parts_of
from seamfast.plans import ON
from seamfast.ways import MOST_NAMES

MOST_ITEMS = 60
MOST_DEEP = 5


class Stretch:
    """What is told of a stretch of a row, however long it is."""

    def __init__(self, first, last):
        self.first = first
        self.last = last
        self.linked = True
        self.many = 0
        self.grains = 0
        self.shows = 0
        self.sent = 0
        # The cues that are on the screen up to the beginning and the end, or None.
        self.head = None
        self.tail = None


class Part:
    """An item of a roll: a piece, or parts that are shown several times."""

    def __init__(self, name, times, parts, body, whole):
        self.name = name
        self.times = times
        self.parts = parts
        self.body = body
        self.whole = whole


def joins(tail, head):
    """1 if a cue stays on from one stretch to the next one, otherwise 0."""
    return 1 if tail is not None and tail == head else 0


def piece_stretch(plan, name):
    """The stretch of one piece."""
    strip = plan.strip_of(name)
    stretch = Stretch(name, name)
    stretch.many = 1
    stretch.grains = plan.shown_of(name)
    stretch.shows = len(strip)
    stretch.sent = len(plan.sends_of(name))
    if len(strip) > 0 and strip[0][1] == 0:
        stretch.head = strip[0][0]
    if len(strip) > 0 and strip[-1][2] == stretch.grains:
        stretch.tail = strip[-1][0]
    return stretch


def behind_one_another(plan, left, right):
    """The stretch of two stretches, one behind the other."""
    both = Stretch(left.first, right.last)
    both.linked = left.linked and right.linked and right.first in plan.followers(left.last)
    both.many = left.many + right.many
    both.grains = left.grains + right.grains
    both.shows = left.shows + right.shows - joins(left.tail, right.head)
    both.sent = left.sent + right.sent
    both.head = left.head
    both.tail = right.tail
    return both


def repeated(plan, body, times):
    """The stretch of a stretch that is shown so many times."""
    whole = Stretch(body.first, body.last)
    whole.linked = body.linked and body.first in plan.followers(body.last)
    whole.many = body.many * times
    whole.grains = body.grains * times
    whole.shows = body.shows * times - joins(body.tail, body.head) * (times - 1)
    whole.sent = body.sent * times
    whole.head = body.head
    whole.tail = body.tail
    return whole


def all_of(plan, parts):
    """The stretch of all parts, one behind the other."""
    whole = parts[0].whole
    for part in parts[1:]:
        whole = behind_one_another(plan, whole, part.whole)
    return whole


def part_of(plan, item):
    """The part that an item writes."""
    if isinstance(item, str):
        stretch = piece_stretch(plan, item)
        return Part(item, 1, [], stretch, stretch)
    times, written = item
    parts = [part_of(plan, inner) for inner in written]
    body = all_of(plan, parts)
    return Part(None, times, parts, body, repeated(plan, body, times))


def repeat_of(item):
    """The item as a pair of times and the items of a roll, None if it is no such pair."""
    pair = parts_of(item, 2)
    if pair is None or not is_integer(pair[0]) or pair[0] < 2:
        return None
    items = items_of(pair[1])
    if not items:
        return None
    return pair[0], items


def judged_items(plan, items, number, depth):
    """The items as tuples, and the number behind that of the last one; the first one has the number told."""
    judged = []
    for item in items:
        repeat = repeat_of(item)
        if depth > MOST_DEEP or (repeat is None and item not in plan):
            raise BadItem(number)
        number += 1
        if repeat is None:
            judged.append(item)
        else:
            inner, number = judged_items(plan, repeat[1], number, depth + 1)
            judged.append((repeat[0], inner))
    return tuple(judged), number


def judged_roll(plan, written):
    """The items of a roll, as tuples."""
    items = items_of(written)
    if not items:
        raise BadItem(-1)
    judged, many = judged_items(plan, items, 0, 0)
    if many > MOST_ITEMS:
        raise TooMany("item")
    return judged


def place_at(parts, moment):
    """The number and the name of the piece that is shown at a moment, and since when it is, in grains."""
    number = 0
    name = None
    while name is None:
        at = 0
        while moment >= parts[at].whole.grains:
            moment -= parts[at].whole.grains
            number += parts[at].whole.many
            at += 1
        part = parts[at]
        number += moment // part.body.grains * part.body.many
        moment = moment % part.body.grains
        name = part.name
        parts = part.parts
    return number, name, moment


def beginning_at(plan, parts, number):
    """The cue of the showing with this number, and the moment at which it comes on."""
    begun = 0
    tail = None
    name = None
    while name is None:
        at = 0
        fresh = parts[0].whole.shows - joins(tail, parts[0].whole.head)
        while number >= fresh:
            number -= fresh
            begun += parts[at].whole.grains
            tail = parts[at].whole.tail
            at += 1
            fresh = parts[at].whole.shows - joins(tail, parts[at].whole.head)
        body = parts[at].body
        fresh = body.shows - joins(tail, body.head)
        if number >= fresh:
            # Each time but the first one has its own end ahead of it.
            each = body.shows - joins(body.tail, body.head)
            begun += ((number - fresh) // each + 1) * body.grains
            number = (number - fresh) % each
            tail = body.tail
        name = parts[at].name
        parts = parts[at].parts
    cue, moment, _ = plan.strip_of(name)[number + joins(tail, body.head)]
    return cue, begun + moment


def head_behind(parts, at, head):
    """The cue that is on at the beginning of what comes behind a part; behind the last one it is the head."""
    return parts[at + 1].whole.head if at + 1 < len(parts) else head


def end_at(plan, parts, number):
    """The moment at which the showing with this number goes off."""
    begun = 0
    head = None
    name = None
    while name is None:
        at = 0
        over = parts[0].whole.shows - joins(parts[0].whole.tail, head_behind(parts, 0, head))
        while number >= over:
            number -= over
            begun += parts[at].whole.grains
            at += 1
            over = parts[at].whole.shows - joins(parts[at].whole.tail, head_behind(parts, at, head))
        head = head_behind(parts, at, head)
        body = parts[at].body
        # Each time but the last one has its own beginning behind it.
        each = body.shows - joins(body.tail, body.head)
        many = parts[at].times - 1
        if number < each * many:
            begun += number // each * body.grains
            number = number % each
            head = body.head
        else:
            number -= each * many
            begun += body.grains * many
        name = parts[at].name
        parts = parts[at].parts
    return begun + plan.strip_of(name)[number][2]


def names_written(items):
    """The names of the row that the items of a roll stand for."""
    names = []
    for item in items:
        if isinstance(item, str):
            names.append(item)
        else:
            names.extend(names_written(item[1]) * item[0])
    return names


class Roll:
    """A roll over a plan, and what is told of the row that it stands for."""

    def __init__(self, plan, written):
        self.plan = plan
        self.written = judged_roll(plan, written)
        self._parts = [part_of(plan, item) for item in self.written]
        self._whole = all_of(plan, self._parts)

    @property
    def size(self):
        """The number of its pieces."""
        return self._whole.many

    @property
    def extent(self):
        """Its shown length in grains."""
        return self._whole.grains

    @property
    def showing_count(self):
        """The number of its showings."""
        return self._whole.shows

    @property
    def send_count(self):
        """The number of its sends."""
        return self._whole.sent

    @property
    def is_whole(self):
        """Whether it is a version."""
        whole = self._whole
        return whole.linked and whole.first in self.plan.starts and whole.last in self.plan.ends

    def moment_at(self, moment):
        """The number and the name of the piece that is shown from this moment on, and the moment of the reel."""
        if not is_within(moment, 0, self._whole.grains - 1):
            raise NoPlace(moment)
        number, name, passed = place_at(self._parts, moment)
        _, start, end, _, _, way = self.plan.piece_of(name)
        factor = self.plan.factor_of(name)
        come_to = start * factor + passed if way == ON else end * factor - passed
        return number, name, fraction(come_to, factor)

    def cue_at(self, moment):
        """The cue that is on the screen from this moment on, or None."""
        if not is_within(moment, 0, self._whole.grains - 1):
            raise NoPlace(moment)
        _, name, passed = place_at(self._parts, moment)
        for cue, begun, over in self.plan.strip_of(name):
            if begun <= passed < over:
                return cue
        return None

    def showing_at(self, number):
        """The showing with this number."""
        if not is_within(number, 0, self._whole.shows - 1):
            raise NoPlace(number)
        cue, begun = beginning_at(self.plan, self._parts, number)
        return cue, begun, end_at(self.plan, self._parts, number)

    def written_out(self):
        """The row that it stands for."""
        if self._whole.many > MOST_NAMES:
            raise TooLong(self._whole.many)
        return tuple(names_written(self.written))

    def __eq__(self, other):
        return isinstance(other, Roll) and self.plan == other.plan and self.written == other.written
