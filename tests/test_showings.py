"""[7]: the showings of a row."""

import random

from seamfast.errors import BadRow
from seamfast.plans import Plan
from seamfast.reels import Reel
from seamfast.showings import showings
from tests.samples import Case, example_plan, random_plans, random_row, seen_showings


def long_plan():
    """A plan over one long cue between two short ones that touch it."""
    reel = Reel(20, ((0, 2, "a", "x"), (2, 18, "b", "y"), (18, 20, "a", "z")))
    pieces = (("on", 4, 8, 1, 1, "on"), ("back", 8, 12, 1, 2, "back"), ("head", 0, 6, 1, 1, "on"), ("off", 16, 20, 1, 1, "on"))
    names = ("on", "back", "head", "off")
    return Plan(reel, pieces, [(one, two) for one in names for two in names], names, names)


class ShowingsTest(Case):
    def test_example(self):
        plan = example_plan()
        self.assertEqual(showings(plan, ("a", "b")), ((0, 0, 8), (1, 12, 22), (2, 24, 30)))
        self.assertEqual(showings(plan, ["a", "c", "a", "b"]), (
            (0, 0, 8), (1, 12, 20), (2, 20, 24), (1, 28, 36), (0, 36, 44), (1, 48, 58), (2, 60, 66),
        ))

    def test_a_cue_that_stays_on(self):
        plan = long_plan()
        self.assertEqual(showings(plan, ("on",)), ((1, 0, 8),))
        self.assertEqual(showings(plan, ("on", "back")), ((1, 0, 12),))
        self.assertEqual(showings(plan, ("on", "back", "back", "on", "on")), ((1, 0, 32),))
        self.assertEqual(showings(plan, ("on",) * 400), ((1, 0, 3200),))
        self.assertEqual(showings(plan, ("head", "on", "off")), ((0, 0, 4), (1, 4, 24), (2, 24, 28)))

    def test_showings_that_touch(self):
        plan = long_plan()
        self.assertEqual(showings(plan, ("off", "head")), ((1, 0, 4), (2, 4, 8), (0, 8, 12), (1, 12, 20)))

    def test_one_cue_again_behind_a_pause(self):
        plan = example_plan()
        self.assertEqual(showings(plan, ("c", "c")), ((2, 0, 4), (1, 8, 16), (2, 16, 20), (1, 24, 32)))
        reel = Reel(6, ((1, 5, "a", "x"),))
        again = Plan(reel, (("a", 0, 4, 1, 1, "on"), ("b", 1, 6, 1, 1, "back")), (), ("a", "b"), ("a", "b"))
        self.assertEqual(showings(again, ("a", "a")), ((0, 1, 4), (0, 5, 8)))
        self.assertEqual(showings(again, ("a", "b")), ((0, 1, 4), (0, 5, 9)))

    def test_none(self):
        plan = Plan(Reel(6), (("a", 0, 4, 1, 1, "on"),), (), ("a",), ("a",))
        self.assertEqual(showings(plan, ("a", "a")), ())

    def test_against_the_picture(self):
        dice = random.Random(31)
        for plan in random_plans(31, 300):
            row = random_row(dice, plan)
            self.assertEqual(showings(plan, row), seen_showings(plan, row))

    def test_bad_rows(self):
        plan = example_plan()
        for row in ((), None, "a", 5, ("a",) * 401):
            self.fails(BadRow, -1, showings, plan, row)
        for thing in ("d", None, True, ("a",)):
            self.fails(BadRow, 1, showings, plan, ("a", thing, thing))
