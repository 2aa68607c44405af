"""What showings are carried while a way goes on, piece by piece, and how long they are."""

from seamfast.allversions import all_steps, names_behind
from seamfast.links import lowered, raised
from seamfast.rules import Rules
from seamfast.standings import Course


class Passage:
    """How a standing goes on by a piece, with the times in grains from the edge of the standing on."""

    def __init__(self, plan, book, standing, name):
        course = Course(plan, book, Rules.loosest())
        edge = 0
        if standing is not None:
            course.begin_at(standing)
            edge = -standing[1][1] if standing[1] is not None else 0
        ahead = course.carrying
        course.go_through(name)
        self.behind = course.standing_at_end(name)
        pending = self.behind[1]
        # The time from the edge to that of the standing behind.
        self.shift = plan.shown_of(name) - edge - (pending[1] if pending is not None else 0)
        shown = list(course.overs)
        if course.carrying is not None:
            shown.append(course.carrying)
        # How much the open showing grew, and when it then ended; None if it did not grow.
        self.grown = 0
        self.held_until = None
        if ahead is not None:
            self.grown = shown[0][2] - ahead[2]
            if self.grown > 0:
                self.held_until = shown[0][2] - edge
            del shown[0]
        # The showings that were taken up; the last one is open then.
        self.fresh = tuple([(cue, since - edge, end - edge) for cue, since, end in shown])
        self.goes_on = ahead is not None and len(self.fresh) == 0


class Passages:
    """The passages from each standing of a way, and how long the open showings of the standings can be."""

    def __init__(self, plan, book):
        self.plan = plan
        # In the order of least ways; the standing ahead of all is None.
        self.led = {
            standing: [Passage(plan, book, standing, name) for name in names_behind(plan, standing)]
            for standing in all_steps(plan, book, Rules.loosest())
        }
        self.links = []
        self.begun = {}
        for standing in self.led:
            for passage in self.led[standing]:
                if passage.goes_on:
                    self.links.append((standing, passage.behind, passage.grown))
                if len(passage.fresh) > 0:
                    _, since, end = passage.fresh[-1]
                    self.begun.setdefault(passage.behind, []).append(end - since)

    def least_lengths(self):
        """The least length of the open showing of each standing that has one."""
        least = {standing: min(lengths) for standing, lengths in self.begun.items()}
        return lowered(least, self.links)

    def greatest_lengths(self):
        """The greatest length of the open showing of each standing that has one, None if there is no greatest."""
        greatest = {standing: max(lengths) for standing, lengths in self.begun.items()}
        # Without a ring that makes it longer, a showing goes on over each standing once at most.
        for _ in range(len(self.led)):
            if len(raised(greatest, self.links)) == 0:
                return greatest
        endless = raised(greatest, self.links)
        for standing in endless:
            greatest[standing] = None
        spread = True
        while spread:
            spread = False
            for left, right, _ in self.links:
                if greatest[left] is None and greatest[right] is not None:
                    greatest[right] = None
                    spread = True
        return greatest

    def least_rests(self):
        """For each standing with an open showing, by how much this grows at least until it is over."""
        rests = {standing: 0 for standing in self.led if standing is not None and standing[0] in self.plan.ends}
        for standing in self.led:
            for passage in self.led[standing]:
                if len(passage.fresh) > 0:
                    rests[standing] = min(passage.grown, rests.get(standing, passage.grown))
        return lowered(rests, [(right, left, grown) for left, right, grown in self.links])
