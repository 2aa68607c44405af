"""Workrooms, in which a plan is changed by deeds that can be undone, and trials of them."""

from seamfast.changes import BAR, DROP, TEXT, changed_plan
from seamfast.errors import BadArrow, BadCue, BadText, NoDeed, TooMany
from seamfast.forms import is_within
from seamfast.reels import is_text

MOST_DEEDS = 60


def deeds_of(steps):
    """The deeds alone of pairs of a deed and the plan behind it."""
    return [deed for deed, _ in steps]


class Workroom:
    """A plan, a wish, and deeds that were done."""

    def __init__(self, plan, wish):
        self.plan = plan
        # The wish, the deeds that stand and those that were undone, the last one last; each deed is told as a pair
        # with the plan behind it. It is never changed, but replaced as a whole: so a trial can put it back.
        self.state = (wish, (), ())

    @property
    def present(self):
        """The present plan."""
        _, done, _ = self.state
        return done[-1][1] if len(done) > 0 else self.plan

    @property
    def asked(self):
        """The wish."""
        return self.state[0]

    @asked.setter
    def asked(self, value):
        """Exchanges the wish."""
        _, done, undone = self.state
        self.state = (value, done, undone)

    @property
    def deed_count(self):
        """The number of deeds that stand."""
        return len(self.state[1])

    def exchange(self, wish):
        """Exchanges the wish."""
        self.asked = wish

    def answer(self):
        """The answer of the wish to the present plan."""
        wish = self.asked
        return wish(self.present)

    def judge_more(self):
        """Raises an error if no deed more can be done."""
        if self.deed_count == MOST_DEEDS:
            raise TooMany("deed")

    def judge_cue(self, cue):
        """Raises an error if the present plan has no cue with this number."""
        if not is_within(cue, 0, len(self.present.reel) - 1):
            raise BadCue(cue)

    def do_deed(self, deed):
        """Does a new deed, which forgets those that were undone."""
        wish, done, _ = self.state
        behind = changed_plan(self.present, (deed,))
        self.state = (wish, done + ((deed, behind),), ())
        return behind

    def drop(self, cue):
        """Drops a cue; the present plan."""
        self.judge_more()
        self.judge_cue(cue)
        return self.do_deed((DROP, cue))

    def reword(self, cue, text):
        """Gives a cue another text; the present plan."""
        self.judge_more()
        self.judge_cue(cue)
        if not is_text(text):
            raise BadText(-1)
        return self.do_deed((TEXT, cue, text))

    def bar(self, first, second):
        """Bars an arrow; the present plan."""
        self.judge_more()
        if (first, second) not in self.present.arrows:
            raise BadArrow((first, second))
        return self.do_deed((BAR, first, second))

    def undo(self):
        """Undoes the last deed that stands; the present plan."""
        wish, done, undone = self.state
        if len(done) == 0:
            raise NoDeed("undo")
        self.state = (wish, done[:-1], undone + done[-1:])
        return self.present

    def redo(self):
        """Does the last deed that was undone again; the present plan."""
        wish, done, undone = self.state
        if len(undone) == 0:
            raise NoDeed("redo")
        self.state = (wish, done + undone[-1:], undone[:-1])
        return self.present

    def copy(self):
        """Another workroom that is the same, and goes its own way."""
        room = Workroom(self.plan, self.asked)
        room.state = self.state
        return room

    def compared(self):
        """By what workrooms that began with the same plan are compared."""
        wish, done, undone = self.state
        return wish, deeds_of(done), deeds_of(undone)

    def __eq__(self, other):
        return isinstance(other, Workroom) and self.plan == other.plan and self.compared() == other.compared()


class Around:
    """What a trial holds for the blocks around the one that is entered."""

    def __init__(self, state, around):
        self.state = state
        self.around = around


class Trial:
    """A context behind which the workroom is what it was when the block was entered."""

    def __init__(self, workroom):
        self.workroom = workroom
        # The state of the workroom at the beginning of the innermost block, and what is held for those around it.
        self.state = None
        self.around = None

    def __enter__(self):
        self.around = Around(self.state, self.around)
        self.state = self.workroom.state
        return self.workroom

    def __exit__(self, kind, value, trace):
        room = self.workroom
        room.state = self.state
        self.leave()

    def leave(self):
        # What is held for the block around this one counts again.
        around = self.around
        self.state = around.state
        self.around = around.around


def rehearsed_deed(workroom, deed):
    """Does a deed; the answer of the wish behind it, or what is told for the deeds of a trial."""
    word = deed[0]
    if word == "trial":
        return rehearsed(workroom, deed[1])
    if word == DROP:
        workroom.drop(deed[1])
    elif word == TEXT:
        workroom.reword(deed[1], deed[2])
    elif word == BAR:
        workroom.bar(deed[1], deed[2])
    elif word == "undo":
        workroom.undo()
    elif word == "redo":
        workroom.redo()
    else:
        workroom.exchange(deed[1])
    return workroom.answer()


def rehearsed(workroom, deeds):
    """Does deeds within the block of a trial; for each, what is told behind it."""
    told = []
    with Trial(workroom) as room:
        for deed in deeds:
            told.append(rehearsed_deed(room, deed))
    return tuple(told)
