"""[30]: the least named cues, and which named cues are needed."""

import random
from itertools import combinations

from seamfast.errors import BadMemory, BadNamed, TooMany
from seamfast.known import Known
from seamfast.leastnamed import least_named, needed
from seamfast.picks import picks
from seamfast.plans import Plan
from seamfast.reels import Reel
from tests.samples import Case, example_plan, random_plans, rich_plans
from tests.test_known import BAD_MEMORIES, line_plan, random_named


def sent(plan):
    """The numbers of the cues that are sent in some piece."""
    return sorted({cue for name in plan.names for cue, _ in plan.sends_of(name)})


def first_of_fewest(plan, memory):
    """The first of the fewest cues with which all texts are clear, of all tuples of cues."""
    for many in range(len(sent(plan)) + 1):
        for named in combinations(sent(plan), many):
            if Known(plan, named, memory):
                return named
    return None


def wide_plan(many, quiet=0):
    """A plan of one piece that sends so many cues of one speaker, and further cues beyond it."""
    cues = [(number, number + 1, "ann", "x") for number in range(many + quiet)]
    return Plan(Reel(many + quiet + 1, cues), (("a", 0, many, 1, 1, "on"),), (("a", "a"),), ("a",), ("a",))


class PicksTest(Case):
    def test_order(self):
        self.assertEqual(picks((3, 5, 7)), [(), (3,), (5,), (7,), (3, 5), (3, 7), (5, 7), (3, 5, 7)])
        self.assertEqual(picks(()), [()])


class LeastNamedTest(Case):
    def test_example(self):
        plan = example_plan()
        # With the memory 1 the cue 2 comes directly behind that of bob.
        self.assertEqual(least_named(plan, 1), (0, 1, 2))
        self.assertEqual(least_named(plan, 2), (0, 1))
        self.assertEqual(least_named(plan, 40), (0, 1))
        self.assertEqual(least_named(plan, None), (0, 1))

    def test_cues_never_sent(self):
        plan = Plan(Reel(9, ((0, 2, "ann", "x"), (3, 5, "bob", "y"), (5, 6, "ann", "z"))), (("a", 3, 5, 1, 1, "on"),), (), ("a",), ("a",))
        self.assertEqual(least_named(plan, 1), (1,))
        nothing = Plan(plan.reel, (("a", 4, 5, 1, 1, "on"),), (), ("a",), ("a",))
        self.assertEqual(least_named(nothing, None), ())

    def test_the_first_of_several(self):
        # Texts of r, s, r, s, r in a ring: with the memory 3 two of the three of r suffice.
        plan = line_plan("rsrsr", [("a", "b"), ("b", "c"), ("c", "d"), ("d", "e"), ("e", "a")])
        self.assertEqual(least_named(plan, 3), first_of_fewest(plan, 3))
        self.assertEqual(least_named(plan, None), (0, 1))
        self.assertEqual(least_named(plan, 2), first_of_fewest(plan, 2))

    def test_as_many_cues_as_are_let(self):
        self.assertEqual(least_named(wide_plan(8), None), (0,))
        self.assertEqual(least_named(wide_plan(8), 1), (0, 2, 4, 6))
        self.assertEqual(least_named(wide_plan(8, quiet=2), None), (0,))
        self.fails(TooMany, "cue", least_named, wide_plan(9), None)
        cues = [(number, number + 1, speaker, "x") for number, speaker in enumerate(["ann", "bob"] * 8)]
        plan = Plan(Reel(16, cues), (("a", 0, 16, 1, 1, "on"),), (("a", "a"),), ("a",), ("a",))
        self.assertEqual(least_named(plan, 40), (0, 1))
        self.assertEqual(least_named(plan, 2), (0, 1, 4, 5, 8, 9, 12, 13))

    def test_against_all_tuples(self):
        dice = random.Random(171)
        seen = set()
        for plan in random_plans(171, 200, 3) + rich_plans(172, 150, 3):
            memory = dice.choice((None, 1, 2, 3, 4))
            told = least_named(plan, memory)
            self.assertEqual(told, first_of_fewest(plan, memory))
            seen.add(len(told))
        self.assertLessEqual({0, 1, 2, 3}, seen)

    def test_errors(self):
        for memory in BAD_MEMORIES:
            self.fails(BadMemory, (memory,), least_named, wide_plan(9), memory)


class NeededTest(Case):
    def test_example(self):
        plan = example_plan()
        self.assertEqual(needed(plan, (0, 1, 2), 1), (("a",), ("a",), ("a", "b")))
        self.assertEqual(needed(plan, (0, 1, 2), 2), (("a",), ("a",), None))
        self.assertEqual(needed(plan, [0, 1], 2), (("a",), ("a",)))
        self.assertEqual(needed(plan, (), 2), ())

    def test_named_cues_that_do_not_make_all_clear(self):
        plan = example_plan()
        self.assertEqual(needed(plan, (1,), 2), (("a",),))
        self.assertEqual(needed(plan, (0, 1), 1), (("a",), ("a",)))
        plan = line_plan("rsrs")
        self.assertEqual(needed(plan, (0, 1, 2), 1), (("a",), ("a", "b"), ("a", "b", "c")))
        self.assertEqual(needed(plan, (0, 1), 1), (("a",), ("a", "b")))

    def test_against_the_others(self):
        dice = random.Random(173)
        seen = set()
        for plan in random_plans(173, 100, 3) + rich_plans(174, 150, 3):
            named = random_named(dice, plan)
            memory = dice.choice((None, 1, 2, 3, 40))
            told = needed(plan, named, memory)
            self.assertEqual(told, tuple(
                Known(plan, named[:number] + named[number + 1:], memory).way for number in range(len(named))
            ))
            seen.update([way is None for way in told])
        self.assertEqual(seen, {True, False})

    def test_errors(self):
        plan = example_plan()
        for memory in BAD_MEMORIES:
            self.fails(BadMemory, (memory,), needed, plan, (0,), memory)
            self.fails(BadNamed, 1, needed, plan, (0, 3), memory)
            self.fails(BadNamed, -1, needed, plan, None, memory)
            self.fails(BadNamed, 0, needed, plan, (True, 1), memory)
