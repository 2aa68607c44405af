"""Speakers whose texts are sent near to one another."""

from seamfast.errors import Apart, BadNumber, Unknown
from seamfast.forms import is_within, parts_of
from seamfast.search import Search
from seamfast.ways import way_key

MOST_WITHIN = 10


def judge_within(within):
    """Raises the error of a bad number within which speakers are near."""
    if not is_within(within, 1, MOST_WITHIN):
        raise BadNumber("within")


def gone_by(plan, name, speaker, age, within):
    """Who speaks near behind a speaker in a piece, and the age of the speaker at its end.

    The age is the number of texts that were sent behind the last one of the speaker, None if they are too many.
    """
    near = []
    for cue, _ in plan.sends_of(name):
        other = plan.reel.cues[cue][2]
        if other == speaker:
            age = 0
            continue
        if age is not None:
            near.append(other)
            age = age + 1 if age + 1 < within else None
    return near, age


def near_behind(plan, speaker, within):
    """For each other speaker with a text near behind one of this speaker, the least way on which it is sent."""
    search = Search()
    found = {}
    come_near(plan, search, found, speaker, within, None)
    at = 0
    while at < len(search.rows):
        come_near(plan, search, found, speaker, within, at)
        at += 1
    return found


def come_near(plan, search, found, speaker, within, at):
    """Goes on from a row of the search, or begins it if there is none."""
    names = sorted(plan.starts)
    age = None
    if at is not None:
        last, (_, age), _ = search.rows[at]
        names = plan.followers(last)
    for name in names:
        near, behind = gone_by(plan, name, speaker, age, within)
        for other in near:
            if other not in found:
                found[other] = search.way_to(at) + (name,)
        search.come_to(name, (name, behind), at)


class Nearness:
    """Which speakers are near within a number of texts, and the least ways on which they are."""

    def __init__(self, plan, within):
        judge_within(within)
        self.plan = plan
        self.within = within
        self._ways = {}
        behind = {speaker: near_behind(plan, speaker, within) for speaker in plan.reel.speakers}
        for first in plan.reel.speakers:
            for second in plan.reel.speakers:
                orders = [(first, second), (second, first)]
                rows = [behind[one][two] for one, two in orders if two in behind[one]]
                if first < second and len(rows) > 0:
                    self._ways[(first, second)] = min(rows, key=way_key)
        self._pairs = tuple(sorted(self._ways))

    def __getitem__(self, at):
        pair = parts_of(at, 2)
        if pair is None:
            raise Unknown(at)
        for name in pair:
            if not isinstance(name, str) or name not in self.plan.reel.speakers:
                raise Unknown(name)
        if pair not in self:
            raise Apart(pair[0], pair[1])
        return self._ways[pair] if pair in self._pairs else self._ways[pair[::-1]]

    def __contains__(self, x):
        pair = parts_of(x, 2)
        return pair is not None and (pair in self._pairs or pair[::-1] in self._pairs)

    def __len__(self):
        return len(self._pairs)

    def __iter__(self):
        return iter(self._pairs)
