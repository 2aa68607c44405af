"""Which text is sent behind which: places, told as pairs of a piece and the number of one of its sends."""

from seamfast.errors import Silent
from seamfast.plans import led_to

MOST_DELAY = 10000


def silent_names(plan):
    """The names of the pieces that send nothing, in the order of the plan."""
    return [name for name in plan.names if len(plan.sends_of(name)) == 0]


def judge_not_silent(plan):
    """Raises an error if the plan has a ring whose pieces send nothing."""
    silent = silent_names(plan)
    arrows = [(left, right) for left, right in plan.arrows if left in silent and right in silent]
    for name in silent:
        if name in led_to([right for left, right in arrows if left == name], arrows):
            raise Silent(name)


def names_from_behind(plan):
    """The names of all pieces, each silent one behind those that follow it; the plan has no silent ring."""
    left = silent_names(plan)
    order = [name for name in plan.names if name not in left]
    while len(left) > 0:
        ready = [name for name in left if all([other in order for other in plan.followers(name)])]
        order.extend(ready)
        left = [name for name in left if name not in ready]
    return order


def all_places(plan):
    """All places, ascending."""
    return [(name, number) for name in sorted(plan.names) for number in range(len(plan.sends_of(name)))]


def cue_at_place(plan, place):
    """The cue that is sent at a place."""
    name, number = place
    return plan.sends_of(name)[number][0]


def first_sends(plan):
    """For each piece, the first places from its beginning on, each with the time until then, in grains."""
    first = {}
    for name in names_from_behind(plan):
        sends = plan.sends_of(name)
        if len(sends) > 0:
            first[name] = [((name, 0), sends[0][1])]
        else:
            shown = plan.shown_of(name)
            first[name] = sorted(set([
                (place, shown + time) for other in plan.followers(name) for place, time in first[other]
            ]))
    return first


def next_sends(plan):
    """For each place, the places of the next sends behind it, each with the time until then, in grains."""
    first = first_sends(plan)
    found = {}
    for place in all_places(plan):
        name, number = place
        sends = plan.sends_of(name)
        moment = sends[number][1]
        if number + 1 < len(sends):
            found[place] = [((name, number + 1), sends[number + 1][1] - moment)]
        else:
            rest = plan.shown_of(name) - moment
            found[place] = sorted(set([
                (other, rest + time) for follower in plan.followers(name) for other, time in first[follower]
            ]))
    return found
