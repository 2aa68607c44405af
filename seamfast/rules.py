"""Rules, and how the carried captions of a row break them."""

from seamfast.books import row_carried
from seamfast.errors import BadNumber
from seamfast.forms import is_fraction, is_within, items_of
from seamfast.ways import judged_row

MOST_RULE = 200


class Rules:
    """What is asked of carried captions."""

    def __init__(self, *, short=0, long=None, gap=0, again=0, pace=None):
        if not is_within(short, 0, MOST_RULE):
            raise BadNumber("short")
        if long is not None and not is_within(long, 1, MOST_RULE):
            raise BadNumber("long")
        if not is_within(gap, 0, MOST_RULE):
            raise BadNumber("gap")
        if not is_within(again, 0, MOST_RULE):
            raise BadNumber("again")
        if pace is not None and (not is_fraction(pace) or pace[0] == 0):
            raise BadNumber("pace")
        self.short = short
        self.long = long
        self.gap = gap
        self.again = again
        self.pace = None if pace is None else items_of(pace)

    @classmethod
    def loosest(cls):
        """The rules without demands."""
        return cls()

    def __eq__(self, other):
        return (
            isinstance(other, Rules) and self.short == other.short and self.long == other.long
            and self.gap == other.gap and self.again == other.again and self.pace == other.pace
        )


def slow_enough(plan, pace, cue):
    """The least length in grains with which the text of a cue is not too fast."""
    above, below = pace
    points = len(plan.reel.cues[cue][3]) * below * plan.grain
    return (points + above - 1) // above


def length_words(plan, rules, cue, length):
    """The words, ascending, that a carried showing of this cue and length breaks by itself."""
    words = []
    if rules.long is not None and length > rules.long * plan.grain:
        words.append("long")
    if rules.pace is not None and length < slow_enough(plan, rules.pace, cue):
        words.append("pace")
    if length < rules.short * plan.grain:
        words.append("short")
    return tuple(words)


def row_breaches(plan, book, rules, names):
    """The breaches of a row of any length that is known to be one."""
    found = []
    ends = {}
    last_end = None
    for number, (cue, begun, over) in enumerate(row_carried(plan, book, names)):
        if cue in ends and begun - ends[cue] < rules.again * plan.grain:
            found.append((number, "again"))
        if last_end is not None and 0 < begun - last_end < rules.gap * plan.grain:
            found.append((number, "gap"))
        for word in length_words(plan, rules, cue, over - begun):
            found.append((number, word))
        ends[cue] = over
        last_end = over
    return tuple(found)


def breaches(plan, book, rules, row):
    """The breaches of a row, ascending."""
    return row_breaches(plan, book, rules, judged_row(plan, row))
