"""How long the cues are shown in all versions, and which of them are sure to be shown."""

from seamfast.errors import BadCue
from seamfast.forms import is_within
from seamfast.passages import Passages
from seamfast.search import Search

# What a way can have of a showing that is looked for: nothing of it, its beginning, all of it.
NOTHING = 0
BEGUN = 1
SHOWN = 2


def lengths_told(passages):
    """For each cue with a carried showing in some version, all lengths that can be the least or the greatest one.

    None stands for lengths without an end.
    """
    told = {}
    least = passages.least_lengths()
    greatest = passages.greatest_lengths()
    for standing in passages.led:
        if standing is not None and standing[2] is not None and standing[0] in passages.plan.ends:
            told.setdefault(standing[2][0], []).extend([least[standing], greatest[standing]])
        for passage in passages.led[standing]:
            for cue, since, end in passage.fresh[:-1]:
                told.setdefault(cue, []).append(end - since)
            if len(passage.fresh) > 0 and standing is not None and standing[2] is not None:
                longest = greatest[standing]
                told.setdefault(standing[2][0], []).extend([
                    least[standing] + passage.grown, None if longest is None else longest + passage.grown,
                ])
    return told


def least_without(passages, cue):
    """The least version that carries no showing of the cue, or None."""
    search = Search()
    come_without(search, passages, cue, None, None)
    at = 0
    while at < len(search.rows):
        name, standing, _ = search.rows[at]
        if name in passages.plan.ends:
            return search.way_to(at)
        come_without(search, passages, cue, standing, at)
        at += 1
    return None


def come_without(search, passages, cue, standing, at):
    """Takes up the standings behind this one, without a showing of the cue on the way."""
    for passage in passages.led[standing]:
        if cue not in [shown[0] for shown in passage.fresh]:
            search.come_to(passage.behind[0], passage.behind, at)


class Shortest:
    """The search for the least version that carries a showing of a cue with the least length."""

    def __init__(self, passages, cue, length):
        self.passages = passages
        self.cue = cue
        self.length = length
        self.rests = passages.least_rests()
        self.search = Search()

    def stage_behind(self, standing, stage, passage):
        """What a way has of the showing behind a passage from a standing."""
        if stage == BEGUN:
            # A begun one is as short as it can be: it stays so only if it grows by no more than it must.
            rest = self.rests[standing] - passage.grown
            if not passage.goes_on:
                stage = SHOWN if rest == 0 else NOTHING
            elif rest != self.rests[passage.behind]:
                stage = NOTHING
        if stage == SHOWN or self.is_shown_in(passage):
            return SHOWN
        if len(passage.fresh) > 0:
            cue, since, end = passage.fresh[-1]
            whole = end - since + self.rests[passage.behind]
            return BEGUN if cue == self.cue and whole == self.length else NOTHING
        return stage

    def is_shown_in(self, passage):
        """Whether such a showing begins and is over in the passage."""
        return (self.cue, self.length) in [(cue, end - since) for cue, since, end in passage.fresh[:-1]]

    def go_on(self, standing, stage, at):
        """Takes up what comes behind a standing."""
        for passage in self.passages.led[standing]:
            behind = (passage.behind, self.stage_behind(standing, stage, passage))
            self.search.come_to(passage.behind[0], behind, at)

    def least_version(self):
        """The least such version."""
        self.go_on(None, NOTHING, None)
        at = 0
        while True:
            name, (standing, stage), _ = self.search.rows[at]
            if name in self.passages.plan.ends and stage != NOTHING:
                return self.search.way_to(at)
            self.go_on(standing, stage, at)
            at += 1


class Spans:
    """The least and the greatest length of each cue in all versions, and whether each version carries it."""

    def __init__(self, plan, book):
        self._passages = Passages(plan, book)
        told = lengths_told(self._passages)
        self._lacking = tuple([least_without(self._passages, cue) for cue in range(len(plan.reel.cues))])
        rows = []
        for cue, version in enumerate(self._lacking):
            lengths = told.get(cue, [None])
            least = min([length for length in lengths if length is not None], default=None)
            greatest = None if None in lengths else max(lengths)
            rows.append((least, greatest, version is None))
        self._rows = tuple(rows)

    def shortest(self, cue):
        """The least version that carries a showing of the cue with its least length, or None."""
        least, _, _ = self[cue]
        return None if least is None else Shortest(self._passages, cue, least).least_version()

    def lacking(self, cue):
        """The least version that carries no showing of the cue, or None."""
        if not is_within(cue, 0, len(self._rows) - 1):
            raise BadCue(cue)
        return self._lacking[cue]

    def __getitem__(self, at):
        if not is_within(at, 0, len(self._rows) - 1):
            raise BadCue(at)
        return self._rows[at]

    def __len__(self):
        return len(self._rows)

    def __iter__(self):
        return iter(self._rows)
