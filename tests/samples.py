"""Plans for the tests, and slow ways to tell what the program tells."""

import random
import unittest

from seamfast.errors import CaptionError, Unreached
from seamfast.plans import Plan
from seamfast.reels import Reel

CUES = ((0, 4, "ann", "good evening"), (6, 12, "bob", "it is late"), (14, 20, "ann", "so we go"))
PIECES = (("a", 0, 10, 1, 1, "on"), ("b", 10, 20, 1, 2, "on"), ("c", 8, 16, 1, 1, "back"))
ARROWS = (("a", "b"), ("a", "c"), ("c", "a"))


class Case(unittest.TestCase):
    """A test case that asks for errors with their attributes."""

    def fails(self, error, told, action, *args, **more):
        """The action raises just this error; told are the values of its attributes, one alone or a tuple of all."""
        if not isinstance(told, tuple):
            told = (told,)
        try:
            found = action(*args, **more)
        except CaptionError as caught:
            self.assertIs(caught.__class__, error)
            kept = tuple(vars(caught).values())
            self.assertEqual(len(kept), len(told))
            for one, other in zip(kept, told):
                self.assertEqual(one, other)
                self.assertIs(one.__class__, other.__class__)
            return caught
        self.fail(f"no error, but {found!r}")
        return None


def example_reel():
    """The reel of the document's example."""
    return Reel(20, CUES)


def example_plan():
    """The plan of the document's example."""
    return Plan(example_reel(), PIECES, ARROWS, ("a",), ("b",))


def full_plan(many=12):
    """A plan of so many pieces with all arrows."""
    names = "abcdefghijkl"[:many]
    pieces = [(name, number, number + 2, 1, 1, "on") for number, name in enumerate(names)]
    arrows = [(left, right) for left in names for right in names]
    return Plan(example_reel(), pieces, arrows, tuple(names), tuple(names))


def random_reel(dice, length=None):
    """A reel with some cues."""
    length = length or dice.randint(4, 14)
    cues = []
    at = 0
    while True:
        start = at + dice.choice((0, 0, 1, 1, 2, 3))
        end = start + dice.choice((1, 1, 2, 3, 4))
        if end > length:
            return Reel(length, cues)
        text = " ".join(["abcdefg"[:dice.randint(1, 7)] for _ in range(dice.randint(1, 3))])
        cues.append((start, end, dice.choice(("ann", "bob", "cy")), text))
        at = end


def random_piece(dice, name, length):
    """A piece of a reel of this length."""
    start = dice.randrange(length)
    end = dice.randint(start + 1, length)
    above, below = dice.choice(((1, 1), (1, 1), (1, 2), (2, 1), (3, 2), (2, 3)))
    return (name, start, end, above, below, dice.choice(("on", "back")))


def random_plan(dice, most=4):
    """A plan of a few pieces."""
    while True:
        reel = random_reel(dice)
        names = "abcdefgh"[:dice.randint(1, most)]
        pieces = [random_piece(dice, name, reel.length) for name in names]
        pairs = [(left, right) for left in names for right in names]
        arrows = dice.sample(pairs, dice.randint(0, min(len(pairs), 2 * len(names))))
        starts = dice.sample(names, dice.randint(1, len(names)))
        ends = dice.sample(names, dice.randint(1, len(names)))
        try:
            return Plan(reel, pieces, arrows, starts, ends)
        except Unreached:
            continue


def random_plans(seed, many, most=4):
    """So many plans, always the same ones for a seed."""
    dice = random.Random(seed)
    return [random_plan(dice, most) for _ in range(many)]


def turned(plans):
    """The plans, every other one of which tells its pieces and arrows the other way round."""
    found = list(plans)
    for number in range(0, len(found), 2):
        plan = found[number]
        found[number] = Plan(plan.reel, plan.pieces[::-1], plan.arrows[::-1], plan.starts, plan.ends)
    return found


def random_row(dice, plan, most=7):
    """A row of the plan, along arrows or not."""
    row = [dice.choice(plan.names)]
    for _ in range(dice.randint(0, most - 1)):
        followers = plan.followers(row[-1])
        row.append(dice.choice(followers if followers and dice.random() < 0.8 else plan.names))
    return tuple(row)


def random_item(dice, plan, depth):
    """An item of a roll."""
    if depth == 0 or dice.random() < 0.6:
        return dice.choice(plan.names)
    return (dice.randint(2, 4), random_roll(dice, plan, depth - 1))


def random_roll(dice, plan, depth=3):
    """The items of a roll."""
    return tuple([random_item(dice, plan, depth) for _ in range(dice.randint(1, 3))])


def unrolled(written):
    """The row that the items of a roll stand for."""
    row = []
    for item in written:
        if isinstance(item, str):
            row.append(item)
        else:
            row.extend(unrolled(item[1]) * item[0])
    return row


def picture(plan, row):
    """For each grain of a row: the number of the piece, its name, and the cue on the screen or None."""
    told = []
    for number, name in enumerate(row):
        _, start, end, above, below, way = plan.piece_of(name)
        factor = above * plan.grain // below
        for tick in range(end - start):
            shown = start + tick if way == "on" else end - 1 - tick
            cues = [k for k, cue in enumerate(plan.reel.cues) if cue[0] <= shown < cue[1]]
            told.extend([(number, name, cues[0] if cues else None)] * factor)
    return told


def seen_showings(plan, row):
    """The showings of a row, told grain by grain."""
    told = []
    for grain, (_, _, cue) in enumerate(picture(plan, row)):
        if cue is None:
            continue
        if told and told[-1][0] == cue and told[-1][2] == grain:
            told[-1] = (cue, told[-1][1], grain + 1)
        else:
            told.append((cue, grain, grain + 1))
    return tuple(told)


def seen_sends(plan, row):
    """The sends of a row, told grain by grain."""
    told = []
    begun = 0
    for name in row:
        _, start, end, above, below, way = plan.piece_of(name)
        factor = above * plan.grain // below
        for cue, (first, last, _, _) in enumerate(plan.reel.cues):
            edge = first - start if way == "on" else end - last
            inside = start <= first < end if way == "on" else start < last <= end
            if inside:
                told.append((begun + edge * factor, cue))
        begun += (end - start) * factor
    return tuple([(cue, moment) for moment, cue in sorted(told)])


def rich_plan(dice, most=4):
    """A plan of a few pieces with many cues and many rings."""
    while True:
        length = dice.randint(8, 24)
        cues = []
        at = dice.randint(0, 2)
        while at < length:
            end = min(length, at + dice.randint(1, 5))
            words = ["abcdefghij"[:dice.randint(1, 10)] for _ in range(dice.randint(1, 4))]
            cues.append((at, end, dice.choice(("ann", "bob", "cy")), " ".join(words)))
            at = end + dice.choice((0, 0, 1, 2))
        names = "abcdef"[:dice.randint(2, most)]
        pieces = [random_piece(dice, name, length) for name in names]
        pairs = [(left, right) for left in names for right in names]
        arrows = dice.sample(pairs, dice.randint(len(names), min(len(pairs), 3 * len(names))))
        starts = dice.sample(names, dice.randint(1, 2))
        ends = dice.sample(names, dice.randint(1, 2))
        try:
            return Plan(Reel(length, cues), pieces, arrows, starts, ends)
        except Unreached:
            continue


def rich_plans(seed, many, most=4):
    """So many such plans, always the same ones for a seed."""
    dice = random.Random(seed)
    return [rich_plan(dice, most) for _ in range(many)]
