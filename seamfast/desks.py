"""Live desks, which may shorten what they send."""

from seamfast.errors import BadCoins, BadCue, BadNumber, BadPace, BadRoom, BadWording, Unknown
from seamfast.forms import is_fraction, is_within, items_of, parts_of
from seamfast.readers import Reading, points_of, signs_of

MOST_WORDINGS = 3
MOST_SIGNS = 60
MOST_PRICE = 9
MOST_ABOVE = 60
MOST_BELOW = 6
MOST_DESK_ROOM = 100
MOST_COINS = 9


def wording_form(thing):
    """The thing as a wording, None if it is none."""
    pair = parts_of(thing, 2)
    if pair is None or not is_within(pair[0], 0, MOST_SIGNS) or not is_within(pair[1], 0, MOST_PRICE):
        return None
    return pair


def judged_wordings(reel, wordings):
    """The wordings of all cues of a reel, as tuples."""
    items = items_of(wordings)
    if items is None or len(items) != len(reel.cues):
        raise BadWording(-1)
    judged = []
    for number, thing in enumerate(items):
        pairs = items_of(thing)
        if pairs is None or not 1 <= len(pairs) <= MOST_WORDINGS:
            raise BadWording(number)
        forms = [wording_form(pair) for pair in pairs]
        if None in forms:
            raise BadWording(number)
        judged.append(tuple(forms))
    return tuple(judged)


def judged_desk_pace(pace):
    """The pace of a desk's reader, as a tuple."""
    if not is_fraction(pace) or not 1 <= pace[0] <= MOST_ABOVE or pace[1] > MOST_BELOW:
        raise BadPace(pace)
    return items_of(pace)


def judge_desk_room(room):
    """Raises the error of a bad room of a desk."""
    if not is_within(room, 0, MOST_DESK_ROOM):
        raise BadRoom(room)


def judge_coins(coins):
    """Raises the error of a bad number of coins."""
    if not is_within(coins, 0, MOST_COINS):
        raise BadCoins(coins)


class Desk:
    """A desk that sends the texts of a plan while it is shown, each in one of its wordings."""

    def __init__(self, plan, wordings, pace, room, most, income):
        self.plan = plan
        self.wordings = judged_wordings(plan.reel, wordings)
        self.pace = judged_desk_pace(pace)
        judge_desk_room(room)
        judge_coins(most)
        judge_coins(income)
        self.room = room
        self.most = most
        self.income = income
        self._levels = max([1] + [len(pairs) for pairs in self.wordings])
        self._full_points = room * points_of(plan, self.pace)
        self._costs = {name: [] for name in plan.names}
        self._readings = {name: [] for name in plan.names}
        for level in range(self._levels):
            told = [pairs[min(level, len(pairs) - 1)] for pairs in self.wordings]
            signs = [pair[0] for pair in told]
            for name in plan.names:
                self._costs[name].append(sum([told[cue][1] for cue, _ in plan.sends_of(name)]))
                self._readings[name].append(Reading(plan, name, signs, self.pace))

    @classmethod
    def plain(cls, plan, pace, room):
        """The desk that sends all texts as they are, for nothing."""
        return cls(plan, tuple([((signs, 0),) for signs in signs_of(plan)]), pace, room, 0, 0)

    @property
    def levels(self):
        """The number of levels."""
        return self._levels

    @property
    def full_points(self):
        """The points of the room."""
        return self._full_points

    def judge_move(self, name, level):
        """Raises the error of a name of no piece, or of a bad level."""
        if name not in self.plan:
            raise Unknown(name)
        if not is_within(level, 0, self._levels - 1):
            raise BadNumber("level")

    def wording(self, cue, level):
        """The wording of a cue at a level: its signs and its price."""
        if not is_within(cue, 0, len(self.wordings) - 1):
            raise BadCue(cue)
        if not is_within(level, 0, self._levels - 1):
            raise BadNumber("level")
        pairs = self.wordings[cue]
        return pairs[min(level, len(pairs) - 1)]

    def cost(self, name, level):
        """The price of a piece at a level."""
        self.judge_move(name, level)
        return self._costs[name][level]

    def reading_at(self, name, level):
        """What a piece does to the lag at a level."""
        self.judge_move(name, level)
        return self._readings[name][level]

    def coins_left(self, name, level, coins):
        """The coins that are left of those ahead of the income, -1 if there are too few for the level."""
        return max(-1, min(self.most, coins + self.income) - self.cost(name, level))

    def done(self, name, level, lag, coins):
        """The lag at the end of the piece and the coins left, None if the level is not good."""
        left = self.coins_left(name, level, coins)
        reading = self._readings[name][level]
        if left < 0 or reading.misses(lag, self._full_points):
            return None
        return reading.end_from(lag), left

    def altered(self, *, new_room=None, new_most=None):
        """The desk with another room, another purse, or both."""
        room = self.room if new_room is None else new_room
        most = self.most if new_most is None else new_most
        return Desk(self.plan, self.wordings, self.pace, room, most, self.income)

    def __eq__(self, other):
        return (
            isinstance(other, Desk) and self.plan == other.plan and self.wordings == other.wordings
            and self.pace == other.pace and self.room == other.room and self.most == other.most
            and self.income == other.income
        )
