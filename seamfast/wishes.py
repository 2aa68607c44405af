"""Wishes: what can be asked of a plan; each is called with the plan, and answers None if it is fulfilled."""

from seamfast.ages import judge_memory
from seamfast.allversions import AllVersions
from seamfast.known import Known
from seamfast.missed import NothingMissed
from seamfast.readers import judge_room, judged_pace


class RulesWish:
    """The wish that all versions keep rules."""

    def __init__(self, book, rules):
        self.book = book
        self.rules = rules

    def __call__(self, plan):
        return AllVersions(plan, self.book, self.rules).version

    def __add__(self, other):
        return BothWish(self, other)

    def __eq__(self, other):
        return isinstance(other, RulesWish) and self.book == other.book and self.rules == other.rules


class RoomWish:
    """The wish that nothing is ever missed."""

    def __init__(self, pace, room):
        self.pace = judged_pace(pace)
        judge_room(room)
        self.room = room

    def __call__(self, plan):
        return NothingMissed(plan, self.pace, self.room).way

    def __add__(self, other):
        return BothWish(self, other)

    def __eq__(self, other):
        return isinstance(other, RoomWish) and self.pace == other.pace and self.room == other.room


class ClearWish:
    """The wish that all texts are clear by the cues that name their speakers."""

    def __init__(self, memory):
        judge_memory(memory)
        self.memory = memory

    def __call__(self, plan):
        return Known(plan, plan.reel.naming, self.memory).way

    def __add__(self, other):
        return BothWish(self, other)

    def __eq__(self, other):
        return isinstance(other, ClearWish) and self.memory == other.memory


class BothWish:
    """Two wishes, of which the second one is asked only if the first one is fulfilled."""

    def __init__(self, first, second):
        self.first = first
        self.second = second

    def __call__(self, plan):
        answer = self.first(plan)
        return self.second(plan) if answer is None else answer

    def __add__(self, other):
        return BothWish(self, other)

    def __eq__(self, other):
        return isinstance(other, BothWish) and self.first == other.first and self.second == other.second
