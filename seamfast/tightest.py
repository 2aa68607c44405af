"""The tightest rules that all versions keep."""

from seamfast.allversions import AllVersions
from seamfast.errors import BadNumber
from seamfast.forms import fraction
from seamfast.passages import Passages
from seamfast.rules import MOST_RULE, Rules
from seamfast.spans import lengths_told


def times_behind(times, standing, passage):
    """For each cue with a showing, the time from the end of its last one to the edge behind a passage.

    The times are those to the edge of the standing from which the passage leads.
    """
    ends = {cue: -time for cue, time in times.items()}
    if passage.held_until is not None:
        ends[standing[2][0]] = passage.held_until
    for cue, _, end in passage.fresh:
        ends[cue] = end
    return {cue: passage.shift - end for cue, end in ends.items()}


def least_times(passages):
    """For each standing, and each cue with a showing, the least time from the end of its last one to the edge."""
    least = {standing: {} for standing in passages.led}
    changed = True
    while changed:
        changed = False
        for standing in passages.led:
            for passage in passages.led[standing]:
                known = least[passage.behind]
                for cue, time in times_behind(least[standing], standing, passage).items():
                    if cue not in known or time < known[cue]:
                        known[cue] = time
                        changed = True
    return least


def pauses_told(passages):
    """The times between neighbours among the carried showings, and those between showings of one cue.

    Of those that occur the least ones are told, and some others.
    """
    gaps = []
    returns = []
    least = least_times(passages)
    for standing in passages.led:
        for passage in passages.led[standing]:
            ends = {cue: -time for cue, time in least[standing].items()}
            last = None
            if standing is not None and standing[2] is not None:
                last = standing[2][0]
            if passage.held_until is not None:
                ends[last] = passage.held_until
            for cue, since, end in passage.fresh:
                if last is not None:
                    gaps.append(since - ends[last])
                if cue in ends:
                    returns.append(since - ends[cue])
                ends[cue] = end
                last = cue
    return gaps, returns


def ticks_within(grains, grain):
    """The greatest number of ticks, at most that of a rule, that is no longer than any of these times."""
    return min([MOST_RULE] + [time // grain for time in grains])


def ticks_around(grains, grain):
    """The least number of ticks, from 1, that is no shorter than any of these times; None if no rule has it."""
    if None in grains:
        return None
    ticks = max([1] + [(time + grain - 1) // grain for time in grains])
    return ticks if ticks <= MOST_RULE else None


def least_slow(plan, told):
    """The least pace at which no text is too fast; told are the lengths of its showings for each cue."""
    least = (0, 1)
    for cue, lengths in told.items():
        shortest = min([length for length in lengths if length is not None])
        pace = fraction(len(plan.reel.cues[cue][3]) * plan.grain, shortest)
        if pace[0] * least[1] > least[0] * pace[1]:
            least = pace
    return least


class Tightest:
    """The tightest rules that all versions keep, each part by itself."""

    def __init__(self, plan, book):
        passages = Passages(plan, book)
        told = lengths_told(passages)
        lengths = []
        for cue in told:
            lengths.extend(told[cue])
        gaps, returns = pauses_told(passages)
        self.short = ticks_within([length for length in lengths if length is not None], plan.grain)
        self.long = ticks_around(lengths, plan.grain)
        self.gap = ticks_within([gap for gap in gaps if gap > 0], plan.grain)
        self.again = ticks_within(returns, plan.grain)
        self.pace = least_slow(plan, told)
        self._plan = plan
        self._book = book

    def tighter(self, word):
        """The rules whose only demand is that of the word, one tighter than all versions keep, or None."""
        if word == "short" and self.short < MOST_RULE:
            return Rules(short=self.short + 1)
        if word == "gap" and self.gap < MOST_RULE:
            return Rules(gap=self.gap + 1)
        if word == "again" and self.again < MOST_RULE:
            return Rules(again=self.again + 1)
        if word == "long" and self.long is None:
            return Rules(long=MOST_RULE)
        if word == "long" and self.long > 1:
            return Rules(long=self.long - 1)
        return None

    def bar(self, word):
        """The least version that breaks the rules with this part one tighter, or None."""
        if not isinstance(word, str) or word not in ("short", "long", "gap", "again"):
            raise BadNumber(word)
        rules = self.tighter(word)
        return None if rules is None else AllVersions(self._plan, self._book, rules).version
