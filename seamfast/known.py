"""Whether those who hear a text know who speaks."""

from seamfast.ages import Aging, judge_memory, judged_named
from seamfast.forms import is_within, items_of, parts_of
from seamfast.search import WorstSearch
from seamfast.ways import judged_row, sends_along, way_key


def unclear_sends(plan, named, memory, names):
    """The numbers of the sends of a row of any length whose texts are not clear, ascending."""
    found = []
    # For each speaker, the number of the last send of a named cue.
    last = {}
    for number, (cue, _) in enumerate(sends_along(plan, names)):
        speaker = plan.reel.cues[cue][2]
        if cue in named:
            last[speaker] = number
        elif speaker not in last or (memory is not None and number - last[speaker] > memory):
            found.append(number)
    return tuple(found)


def unclear(plan, named, memory, row):
    """The numbers of the sends of a row whose texts are not clear, ascending."""
    kept = judged_named(plan.reel, named)
    judge_memory(memory)
    return unclear_sends(plan, kept, memory, judged_row(plan, row))


def agings(plan, named, memory, speaker):
    """What each piece does to the age of a speaker."""
    return {name: Aging(plan, name, speaker, named, memory) for name in plan.names}


def age_search(plan, named, memory, speaker):
    """A search for a way on which a text of a speaker is not clear; it begins with the age None."""
    return WorstSearch(plan, agings(plan, named, memory, speaker))


class Known:
    """Whether all texts on all ways are clear, with the table that shows it, or the least way on which one is not."""

    def __init__(self, plan, named, memory):
        kept = judged_named(plan.reel, named)
        judge_memory(memory)
        searches = [age_search(plan, kept, memory, speaker) for speaker in plan.reel.speakers]
        rows = [search.least_way(None) for search in searches]
        self.way = min([row for row in rows if row is not None], key=way_key, default=None)
        self.cue = None
        self.table = None
        self._rows = ()
        if self.way is not None:
            number = unclear_sends(plan, kept, memory, self.way)[0]
            self.cue = sends_along(plan, self.way)[number][0]
        else:
            self._rows = tuple([
                (name, tuple([search.worst[name] for search in searches])) for name in plan.names
            ])
            self.table = self._rows

    def __bool__(self):
        return self.way is None

    def __len__(self):
        return len(self._rows)

    def __iter__(self):
        return iter(self._rows)


def ages_form(plan, memory, thing):
    """The thing as a row of a table of ages, None if it does not have the form."""
    pair = parts_of(thing, 2)
    if pair is None or pair[0] not in plan:
        return None
    ages = parts_of(pair[1], len(plan.reel.speakers))
    oldest = 0 if memory is None else memory - 1
    if ages is None or not all([age is None or is_within(age, 0, oldest) for age in ages]):
        return None
    return pair[0], ages


def keeps_to_ages(told, names, ages, known):
    """Whether all texts in each of these pieces are clear from some ages, and each ends with at most the ages told.

    Told is, for each speaker, what each piece does to the age.
    """
    for name in names:
        for aging, age, most in zip(told, ages, known[name]):
            if aging[name].fails(age) or aging[name].is_worse(aging[name].state_behind(age), most):
                return False
    return True


def judge_ages(plan, named, memory, table):
    """None if the ages are right, -1 if they lack a row or a start, otherwise the number of the first wrong row."""
    kept = judged_named(plan.reel, named)
    judge_memory(memory)
    told = [agings(plan, kept, memory, speaker) for speaker in plan.reel.speakers]
    rows = items_of(table)
    if rows is None:
        return -1
    forms = [ages_form(plan, memory, row) for row in rows]
    known = {}
    for form in forms:
        if form is not None and form[0] not in known:
            known[form[0]] = form[1]
    if len(known) < len(plan) or not keeps_to_ages(told, plan.starts, [None] * len(told), known):
        return -1
    for number, form in enumerate(forms):
        if form is None or not keeps_to_ages(told, plan.followers(form[0]), form[1], known):
            return number
    return None
