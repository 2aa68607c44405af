"""[19]: the lags of a reader on a row."""

import random

from seamfast.errors import BadPace, BadRow
from seamfast.lags import lags
from seamfast.plans import Plan
from seamfast.reels import Reel
from tests.samples import Case, example_plan, random_plans, random_row, rich_plans, seen_sends

BAD_PACES = (
    (2, 4), (0, 2), (-1, 2), (1, 0), (1, -2), (0, 0), (True, 1), (1, True), (False, 1), (1,), (1, 2, 3), (), None, 1, "12",
    True, (1.0, 2), ("1", "2"), (None, 1), ((1, 2), 3), {}, {1: 2, 3: 4},
)


def seen_lags(plan, row, pace):
    """The lags of a row, told grain by grain, in points."""
    above, below = pace
    sends = {}
    for cue, moment in seen_sends(plan, row):
        sends[moment] = cue
    grains = sum((plan.piece_of(name)[2] - plan.piece_of(name)[1]) * plan.factor_of(name) for name in row)
    told = []
    lag = 0
    for grain in range(grains):
        if grain in sends:
            lag += len(plan.reel[sends[grain]][3]) * below * plan.grain
            told.append(lag)
        lag = max(0, lag - above)
    return tuple(told) + (lag,)


def random_pace(dice):
    """A pace, also zero."""
    return dice.choice(((0, 1), (1, 3), (1, 2), (1, 1), (3, 2), (2, 1), (5, 2), (3, 1), (4, 1), (6, 1), (9, 1)))


class LagsTest(Case):
    def test_example(self):
        plan = example_plan()
        # A sign has two points. In a 12 signs are sent at once, 10 signs behind 12 grains, and 8 grains follow.
        self.assertEqual(lags(plan, ("a",), (1, 1)), (24, 32, 24))
        self.assertEqual(lags(plan, ("a",), (2, 1)), (24, 20, 4))
        self.assertEqual(lags(plan, ("a",), (2, 3)), (72, 108, 92))
        # In c cue 1 is sent alone, behind 8 grains, since cue 2 is cut into.
        self.assertEqual(lags(plan, ("a", "c"), (2, 1)), (24, 20, 20, 4))
        self.assertEqual(lags(plan, ["a", "b"], [2, 1]), (24, 20, 16, 4))

    def test_nothing_is_sent(self):
        plan = Plan(Reel(20, ((0, 8, "a", "x"),)), (("a", 2, 9, 1, 1, "on"),), (("a", "a"),), ("a",), ("a",))
        self.assertEqual(lags(plan, ("a", "a"), (1, 2)), (0,))
        bare = Plan(Reel(5), (("a", 0, 5, 1, 1, "on"),), (), ("a",), ("a",))
        self.assertEqual(lags(bare, ("a",), (1, 2)), (0,))

    def test_pace_zero(self):
        plan = example_plan()
        self.assertEqual(lags(plan, ("a", "c", "a"), (0, 1)), (24, 44, 64, 88, 108, 108))

    def test_at_the_first_and_the_last_moment(self):
        reel = Reel(20, ((3, 4, "a", "four"), (6, 9, "b", "sevenxx"), (9, 10, "a", "xx")))
        pieces = (("a", 3, 10, 1, 1, "on"), ("b", 2, 9, 1, 1, "back"))
        plan = Plan(reel, pieces, (("a", "b"), ("b", "a")), ("a", "b"), ("a", "b"))
        self.assertEqual(lags(plan, ("a",), (1, 1)), (4, 8, 7, 6))
        # Run back, cue 1 comes on at 0, and cue 0 five grains later; cue 2 lies behind.
        self.assertEqual(lags(plan, ("b",), (1, 1)), (7, 6, 4))
        self.assertEqual(lags(plan, ("a", "b"), (1, 1)), (4, 8, 7, 13, 12, 10))
        self.assertEqual(lags(plan, ("a", "b"), (7, 1)), (4, 7, 2, 7, 4, 0))

    def test_a_lag_that_falls_to_nothing(self):
        reel = Reel(20, ((0, 2, "a", "four"), (8, 9, "b", "ab")))
        plan = Plan(reel, (("a", 0, 12, 1, 1, "on"),), (("a", "a"),), ("a",), ("a",))
        self.assertEqual(lags(plan, ("a",), (1, 2)), (8, 4, 0))
        self.assertEqual(lags(plan, ("a",), (1, 3)), (12, 10, 6))
        self.assertEqual(lags(plan, ("a",), (1, 1)), (4, 2, 0))
        self.assertEqual(lags(plan, ("a", "a"), (2, 5)), (20, 14, 26, 20, 12))
        self.assertEqual(lags(plan, ("a", "a"), (3, 5)), (20, 10, 20, 10, 0))

    def test_against_grains(self):
        dice = random.Random(71)
        for plan in random_plans(71, 200) + rich_plans(72, 200):
            row = random_row(dice, plan)
            pace = random_pace(dice)
            self.assertEqual(lags(plan, row, pace), seen_lags(plan, row, pace))

    def test_great_paces(self):
        plan = example_plan()
        above, below = 10 ** 39, 10 ** 39 + 1
        self.assertEqual(lags(plan, ("a",), (above, below))[0], 24 * below)
        self.assertEqual(lags(plan, ("a",), (above, below))[2], 44 * below - 20 * above)

    def test_errors(self):
        plan = example_plan()
        for pace in BAD_PACES:
            self.fails(BadPace, (pace,), lags, plan, ("a",), pace)
            self.fails(BadRow, 1, lags, plan, ("a", "d"), pace)
        for row in ((), None, "a", ("a",) * 401):
            self.fails(BadRow, -1, lags, plan, row, (1, 1))
        self.assertEqual(len(lags(plan, ("b",) * 400, (1, 1))), 401)
        pace = [4, 2]
        self.assertIs(self.fails(BadPace, (pace,), lags, plan, ("a",), pace).pace, pace)
