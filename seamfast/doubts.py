"""Whether the doubt which of two courses is shown always ends."""

from seamfast.courses import Doubting, Hearsay, delay_of, least_walk, ranks_of
from seamfast.errors import BadDelay
from seamfast.forms import is_integer, is_within, items_of, parts_of
from seamfast.sendings import MOST_DELAY, judge_not_silent


def judge_slack(slack):
    """Raises the error of a bad slack."""
    if not is_within(slack, 0, MOST_DELAY):
        raise BadDelay(slack)


def doubting_of(plan, slack):
    """The doubts of a watcher of a plan for a slack, where the texts are as they are."""
    judge_slack(slack)
    judge_not_silent(plan)
    return Doubting(Hearsay(plan), slack, ())


def first_loop(led, ranks):
    """The least walk from the first doubt from which steps lead back to it, back to it."""
    for doubt in led:
        walk = None if doubt in ranks else least_walk(led, led[doubt], doubt)
        if walk is not None:
            return (doubt,) + walk
    return None


class Doubts:
    """Whether the doubt always ends, with the table that shows it, or how it can last for ever."""

    def __init__(self, plan, slack):
        doubting = doubting_of(plan, slack)
        led = doubting.all_doubts()
        ranks = ranks_of(led)
        self.delay = None
        self.lead = None
        self.loop = None
        self.table = None
        self._rows = ()
        if len(ranks) == len(led):
            self.delay = delay_of(doubting, ranks)
            self._rows = tuple([(doubt, ranks[doubt]) for doubt in led])
            self.table = self._rows
        else:
            self.loop = first_loop(led, ranks)
            self.lead = least_walk(led, doubting.fresh_doubts(), self.loop[0])

    def __bool__(self):
        return self.delay is not None

    def __len__(self):
        return len(self._rows)

    def __iter__(self):
        return iter(self._rows)


def place_form(doubting, thing):
    """The thing as a place, None if it is none."""
    place = parts_of(thing, 2)
    if place is None or not isinstance(place[0], str) or not is_integer(place[1]):
        return None
    return place if place in doubting.texts else None


def doubt_form(doubting, thing):
    """The thing as a doubt, None if it is none."""
    parts = parts_of(thing, 4)
    if parts is None:
        return None
    place = place_form(doubting, parts[0])
    other = place_form(doubting, parts[1])
    if place is None or other is None or place >= other or doubting.texts[place] != doubting.texts[other]:
        return None
    _, _, down, up = parts
    if not is_within(down, 0, doubting.most) or not is_within(up, 0, doubting.most - down):
        return None
    return place, other, down, up


def doubts_behind(plan, slack, doubt):
    """The doubts behind a doubt, ascending."""
    doubting = doubting_of(plan, slack)
    return tuple(doubting.doubts_behind(doubt_form(doubting, doubt)))


def rank_form(doubting, thing):
    """The thing as a row of a table of doubts, None if it does not have the form."""
    pair = parts_of(thing, 2)
    if pair is None or not is_integer(pair[1]) or pair[1] < 0:
        return None
    doubt = doubt_form(doubting, pair[0])
    return None if doubt is None else (doubt, pair[1])


def judge_doubts(plan, slack, table):
    """None if the table of doubts is right, -1 if it lacks a fresh one, otherwise the number of the first wrong row."""
    doubting = doubting_of(plan, slack)
    rows = items_of(table)
    if rows is None:
        return -1
    forms = [rank_form(doubting, row) for row in rows]
    ranks = {}
    for form in forms:
        if form is not None and form[0] not in ranks:
            ranks[form[0]] = form[1]
    if not all([doubt in ranks for doubt in doubting.fresh_doubts()]):
        return -1
    for number, form in enumerate(forms):
        # A doubt behind that is not in the table counts as one without a lesser rank.
        if form is None or not all([ranks.get(doubt, form[1]) < form[1] for doubt in doubting.doubts_behind(form[0])]):
            return number
    return None
