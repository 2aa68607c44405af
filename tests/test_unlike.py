"""[38]: the least cues to be made unlike."""

import itertools
import random

from seamfast.doubts import Doubts
from seamfast.errors import BadDelay, BadNumber, Silent, TooMany
from seamfast.plans import Plan
from seamfast.reels import Reel
from seamfast.unlike import least_unlike
from tests.samples import Case, example_plan
from tests.test_doubts import fresh_doubts, longest, slow_doubts, twin_plan
from tests.test_recordings import BAD_DELAYS, heard_plans
from tests.test_windows import silent_plan

BAD_NUMBERS = (-1, 101, True, False, None, "1", 1.0, (1,), 10 ** 39)


def slow_least(plan, slack, delay):
    """The least cues to be made unlike, going through all tuples; "many" where there are too many doubts."""
    cues = sorted({cue for name in plan.names for cue, _ in plan.sends_of(name)})
    for many in range(len(cues) + 1):
        for unlike in itertools.combinations(cues, many):
            led = slow_doubts(plan, slack, unlike)
            if led is None:
                return "many"
            ranks = longest(led)
            if None not in ranks.values():
                if max([ranks[doubt] + 1 for doubt in fresh_doubts(plan, unlike)], default=0) <= delay:
                    return unlike
    return None


def wide_plan(many, arrows=()):
    """A plan in which so many cues are sent, with one text, and three more cues are not."""
    cues = [(number, number + 1, "ann", "x") for number in range(many + 3)]
    return Plan(Reel(40, cues), (("a", 0, many, 1, 1, "on"), ("b", 30, 31, 1, 1, "on")), arrows, ("a", "b"), ("a", "b"))


class UnlikeTest(Case):
    def test_example(self):
        plan = example_plan()
        # Cue 1 is sent in a and in c: no text of its own parts these two places.
        self.assertEqual(least_unlike(plan, 0, 1), ())
        self.assertIsNone(least_unlike(plan, 0, 0))

    def test_twins(self):
        plan = twin_plan()
        self.assertEqual(Doubts(plan, 10).delay, 3)
        self.assertEqual(least_unlike(plan, 10, 3), ())
        self.assertEqual(least_unlike(plan, 10, 2), (0,))
        self.assertEqual(least_unlike(plan, 10, 1), (1,))
        self.assertEqual(least_unlike(plan, 10, 0), (0, 1, 2))
        self.assertEqual(least_unlike(plan, 0, 2), ())

    def test_places_of_one_cue_stay_alike(self):
        reel = Reel(4, ((0, 1, "ann", "x"), (1, 2, "bob", "x")))
        pieces = (("a", 0, 1, 1, 1, "on"), ("b", 1, 2, 1, 1, "on"), ("c", 0, 1, 1, 1, "on"))
        plan = Plan(reel, pieces, (("a", "a"), ("b", "b")), ("a", "b", "c"), ("a", "b", "c"))
        self.assertEqual(least_unlike(plan, 0, 1), (0,))
        self.assertIsNone(least_unlike(plan, 0, 0))
        plan = Plan(reel, pieces, (("a", "a"), ("b", "b"), ("c", "c")), ("a", "b", "c"), ("a", "b", "c"))
        self.assertIsNone(least_unlike(plan, 0, 100))

    def test_arguments(self):
        plans = (example_plan(), silent_plan(1, (("a", "a"),), ("a",), ("a",)), wide_plan(9))
        for plan in plans:
            for slack in BAD_DELAYS:
                self.fails(BadDelay, (slack,), least_unlike, plan, slack, -1)
            for delay in BAD_NUMBERS:
                self.fails(BadNumber, "delay", least_unlike, plan, 0, delay)
        self.assertEqual(least_unlike(plans[0], 10000, 100), ())

    def test_how_many_cues(self):
        self.assertEqual(least_unlike(wide_plan(8), 0, 100), ())
        self.assertEqual(least_unlike(wide_plan(8), 0, 0), (0, 1, 2, 3, 4, 5, 6))
        self.fails(TooMany, "cue", least_unlike, wide_plan(9), 0, 100)
        # Ahead of Silent.
        self.fails(TooMany, "cue", least_unlike, wide_plan(9, (("b", "b"),)), 0, 100)
        self.fails(Silent, "b", least_unlike, wide_plan(8, (("b", "b"),)), 0, 100)
        self.fails(Silent, "a", least_unlike, silent_plan(1, (("a", "a"),), ("a",), ("a",)), 0, 0)

    def test_no_sends(self):
        self.assertEqual(least_unlike(silent_plan(1, (), ("a",), ("a",)), 0, 0), ())

    def test_too_many_doubts_only_where_they_are_asked(self):
        # Eight cues in each of four pieces, all with one text: 32 places.
        cues = [(number, number + 1, "ann", "x") for number in range(8)]
        pieces = [(name, 0, 8, 1, 1, "on") for name in "abcd"]
        plan = Plan(Reel(8, cues), pieces, (), tuple("abcd"), tuple("abcd"))
        self.fails(TooMany, "doubt", Doubts, plan, 0)
        self.fails(TooMany, "doubt", least_unlike, plan, 0, 100)
        # The second tuple that is asked has few doubts, but the first one goes ahead of it.
        cues = [(number, number + 1, "ann", "x" if number < 7 else "y") for number in range(8)]
        plan = Plan(Reel(8, cues), pieces, (), tuple("abcd"), tuple("abcd"))
        self.assertEqual(len(slow_doubts(plan, 0, (0,))), 24 * 23 // 2 + 12)
        # 28 places of x: 378 pairs, and six of y.
        self.assertEqual(least_unlike(plan, 0, 100), ())
        self.assertIsNone(least_unlike(plan, 0, 7))
        ring = Plan(Reel(8, cues), pieces, (("a", "a"), ("b", "c")), tuple("abcd"), tuple("abcd"))
        self.assertEqual(least_unlike(ring, 0, 100), slow_least(ring, 0, 100))

    def test_against_all_tuples(self):
        dice = random.Random(381)
        seen = {}
        for plan in heard_plans(381, 160):
            cues = {cue for name in plan.names for cue, _ in plan.sends_of(name)}
            slack, delay = dice.choice((0, 1, 2, 5)), dice.choice((0, 1, 1, 2, 3))
            if len(cues) > 6:
                continue
            told = slow_least(plan, slack, delay)
            if told == "many":
                self.fails(TooMany, "doubt", least_unlike, plan, slack, delay)
            else:
                self.assertEqual(least_unlike(plan, slack, delay), told)
            seen[told if told in (None, "many") else min(2, len(told))] = True
        self.assertLessEqual({None, 0, 1, 2}, set(seen))
