"""Houses, which keep reels, plans and rolls by their names."""

from seamfast.errors import BadName, InUse, TooMany, Twice, Unknown, Unlike
from seamfast.reels import is_name

MOST_THINGS = 30
REEL = "reel"
PLAN = "plan"
ROLL = "roll"
STRIKE = "strike"


def judge_name(name):
    """Raises the error of a bad name."""
    if not is_name(name):
        raise BadName(name)


class House:
    """A house, and the deeds by which things came into it and were struck."""

    def __init__(self):
        # All deeds, in order: a word, a name, for what is over another thing the name of this, and the thing added.
        self.deeds = ()
        # For each name the word of its kind, the name of what it is over or None, and the thing.
        self._kept = {}
        self._names = ()

    @property
    def deed_count(self):
        """The number of its deeds."""
        return len(self.deeds)

    def thing_of(self, word, name):
        """The thing of this kind with this name."""
        if name not in self or self._kept[name][0] != word:
            raise Unknown(name)
        return self._kept[name][2]

    def judge_fresh(self, name):
        """Raises an error if no thing can be added by this name."""
        judge_name(name)
        if name in self:
            raise Twice(name)

    def keep(self, word, name, of, thing):
        """Adds a thing that is judged but for the number of things."""
        if len(self) == MOST_THINGS:
            raise TooMany("thing")
        self._kept[name] = (word, of, thing)
        self._names = self._names + (name,)

    def keep_reel(self, name, reel):
        """Adds a reel."""
        self.judge_fresh(name)
        self.keep(REEL, name, None, reel)
        self.deeds = self.deeds + ((REEL, name, reel),)

    def keep_plan(self, name, of, plan):
        """Adds a plan over the reel with the second name."""
        self.judge_fresh(name)
        if self.thing_of(REEL, of) != plan.reel:
            raise Unlike(REEL)
        self.keep(PLAN, name, of, plan)
        self.deeds = self.deeds + ((PLAN, name, of, plan),)

    def keep_roll(self, name, of, roll):
        """Adds a roll over the plan with the second name."""
        self.judge_fresh(name)
        if self.thing_of(PLAN, of) != roll.plan:
            raise Unlike(PLAN)
        self.keep(ROLL, name, of, roll)
        self.deeds = self.deeds + ((ROLL, name, of, roll),)

    def strike(self, name):
        """Strikes a thing."""
        judge_name(name)
        if name not in self:
            raise Unknown(name)
        for other in self._names:
            if self._kept[other][1] == name:
                raise InUse(other)
        del self._kept[name]
        self._names = tuple([other for other in self._names if other != name])
        self.deeds = self.deeds + ((STRIKE, name),)

    def over(self, name):
        """The name of what the thing is over, None for a reel."""
        if name not in self:
            raise Unknown(name)
        return self._kept[name][1]

    def copy(self):
        """Another house with the same deeds, which goes its own way."""
        house = House()
        house.deeds = self.deeds
        house._kept = dict(self._kept)
        house._names = self._names
        return house

    def __contains__(self, x):
        return isinstance(x, str) and x in self._kept

    def __getitem__(self, at):
        if at not in self:
            raise Unknown(at)
        return self._kept[at][2]

    def __len__(self):
        return len(self._names)

    def __iter__(self):
        return iter(self._names)

    def __eq__(self, other):
        return isinstance(other, House) and self.deeds == other.deeds
