"""Two courses of texts that are heard alike: the doubts which of them is shown."""

from seamfast.errors import TooMany
from seamfast.search import Search
from seamfast.sendings import all_places, cue_at_place, next_sends

MOST_DOUBTS = 400


class Hearsay:
    """What a watcher goes by: the places that are sent behind each place, and the text of each place."""

    def __init__(self, plan):
        self.plan = plan
        self.places = all_places(plan)
        self.behind = next_sends(plan)

    def texts_with(self, unlike):
        """For each place its text, but the number of its cue if this is one of those that are made unlike."""
        found = {}
        for place in self.places:
            cue = cue_at_place(self.plan, place)
            found[place] = cue if cue in unlike else self.plan.reel.cues[cue][3]
        return found


class Doubting:
    """The doubts of a watcher for a slack, where some cues have texts unlike all others."""

    def __init__(self, hearsay, slack, unlike):
        self.places = hearsay.places
        self.next_places = hearsay.behind
        self.texts = hearsay.texts_with(unlike)
        self.most = 2 * slack

    def fresh_doubts(self):
        """The fresh doubts, ascending."""
        return [
            (place, other, 0, 0) for number, place in enumerate(self.places) for other in self.places[number + 1:]
            if self.texts[place] == self.texts[other]
        ]

    def doubt_behind(self, doubt, place, other, change):
        """The doubt behind another one at these places, where the difference changes so much; None if there is none."""
        down = max(0, doubt[2] + change)
        up = max(0, doubt[3] - change)
        if place == other or self.texts[place] != self.texts[other] or down + up > self.most:
            return None
        return (place, other, down, up) if place < other else (other, place, up, down)

    def doubts_behind(self, doubt):
        """The doubts behind a doubt, ascending."""
        found = {}
        for place, time in self.next_places[doubt[0]]:
            for other, passed in self.next_places[doubt[1]]:
                behind = self.doubt_behind(doubt, place, other, time - passed)
                if behind is not None:
                    found[behind] = True
        return sorted(found)

    def all_doubts(self):
        """For each doubt that fresh ones lead to, in order, the doubts behind it."""
        led = {}
        level = self.fresh_doubts()
        known = {doubt: True for doubt in level}
        while len(level) > 0:
            if len(known) > MOST_DOUBTS:
                raise TooMany("doubt")
            found = {}
            for doubt in level:
                led[doubt] = self.doubts_behind(doubt)
                for behind in led[doubt]:
                    if behind not in known:
                        known[behind] = True
                        found[behind] = True
            level = sorted(found)
        return led


def ranks_of(led):
    """The ranks of the doubts that cannot last for ever; told are the doubts behind each one."""
    left = {doubt: len(behind) for doubt, behind in led.items()}
    ahead = {doubt: [] for doubt in led}
    for doubt, behind in led.items():
        for other in behind:
            ahead[other].append(doubt)
    ended = [doubt for doubt in led if left[doubt] == 0]
    ranks = {}
    while len(ended) > 0:
        doubt = ended.pop()
        ranks[doubt] = max([ranks[other] + 1 for other in led[doubt]], default=0)
        for other in ahead[doubt]:
            left[other] -= 1
            if left[other] == 0:
                ended.append(other)
    return ranks


def least_walk(led, first, last):
    """The least walk of doubts, begun by steps to some of the first ones, to the last one; or None."""
    search = Search()
    for doubt in first:
        search.come_to(doubt, doubt, None)
    at = 0
    while at < len(search.rows):
        doubt, _, _ = search.rows[at]
        if doubt == last:
            return search.way_to(at)
        for behind in led[doubt]:
            search.come_to(behind, behind, at)
        at += 1
    return None


def delay_of(doubting, ranks):
    """The delay of doubts that always end, from their ranks."""
    return max([ranks[doubt] + 1 for doubt in doubting.fresh_doubts()], default=0)
