"""What a piece does to the age of a speaker: how many texts were sent behind the last one of a named cue."""

from seamfast.errors import BadMemory, BadNamed
from seamfast.forms import is_integer, is_within, items_of

MOST_MEMORY = 40


def judged_named(reel, named):
    """The numbers of the named cues, as a tuple."""
    items = items_of(named)
    if items is None:
        raise BadNamed(-1)
    last = -1
    for number, cue in enumerate(items):
        if not is_integer(cue) or not last < cue < len(reel.cues):
            raise BadNamed(number)
        last = cue
    return items


def judge_memory(memory):
    """Raises the error of a bad memory."""
    if memory is not None and not is_within(memory, 1, MOST_MEMORY):
        raise BadMemory(memory)


class Aging:
    """What a piece does to the age of one speaker."""

    def __init__(self, plan, name, speaker, named, memory):
        self.memory = memory
        # Up to which age the texts of the speaker are clear that come ahead of any named one; -1 if up to none.
        self.most = None
        # Whether those behind a named one of the piece are clear, and the age at its end; None if there is none.
        self.keeps_clear = True
        self.end = None
        self.is_named = False
        sends = plan.sends_of(name)
        self.many = len(sends)
        age = None
        for number, (cue, _) in enumerate(sends):
            if cue in named and plan.reel.cues[cue][2] == speaker:
                self.is_named = True
                age = 0
                continue
            if plan.reel.cues[cue][2] == speaker:
                self.ask(number, age)
            if self.is_named:
                age = self.older(age, 1)
        self.end = age

    def ask(self, number, age):
        """Takes up that a text of the speaker that is not named is sent behind so many texts of the piece."""
        if self.is_named:
            self.keeps_clear = self.keeps_clear and age is not None
        else:
            self.most = MOST_MEMORY if self.memory is None else max(-1, self.memory - 1 - number)

    def older(self, age, many):
        """The age behind so many texts more."""
        if age is None or self.memory is None:
            return age
        return age + many if age + many < self.memory else None

    def fails(self, age):
        """Whether some text of the speaker is not clear if the piece begins with an age."""
        return not self.keeps_clear or (self.most is not None and (age is None or age > self.most))

    def state_behind(self, age):
        """The age at the end of the piece if it begins with this one."""
        return self.end if self.is_named else self.older(age, self.many)

    def is_worse(self, age, other):
        """Whether an age is greater than another one; None is greater than all numbers."""
        return other is not None and (age is None or age > other)
