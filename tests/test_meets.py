"""[41]: the fewest meets."""

import itertools
import random

from seamfast.drifts import Drift
from seamfast.errors import BadNumber, BadRate, TooMany
from seamfast.meets import fewest_meets
from tests.samples import Case, example_plan, full_plan, random_plans, rich_plans, turned
from tests.test_drifts import RATES, line_plan, random_rates


def slow_fewest(plan, rates, limit):
    """The fewest meets, going through all lots of arrows."""
    for many in range(len(plan.arrows) + 1):
        for numbers in itertools.combinations(range(len(plan.arrows)), many):
            meets = tuple(plan.arrows[number] for number in numbers)
            if Drift(plan, rates, meets).beyond(limit) is None:
                return meets
    return None


class MeetsTest(Case):
    def test_example(self):
        plan = example_plan()
        rates = ((1, 2), (1, 2), (3, 2))
        # In a the drift is -10, in b 0, in c 8; a and c stand in a ring.
        self.assertEqual(fewest_meets(plan, rates, 10), (("a", "c"),))
        self.assertEqual(fewest_meets(plan, [list(rate) for rate in rates], 500), (("a", "c"),))
        self.assertIsNone(fewest_meets(plan, rates, 9))
        self.assertEqual(fewest_meets(plan, RATES, 0), ())

    def test_the_numbers_of_the_arrows(self):
        arrows = (("c", "d"), ("b", "c"), ("a", "b"))
        plan = line_plan("abcd", arrows)
        rates = ((1, 1), (2, 1), (2, 1), (2, 1))
        # Each piece but a makes the drift ten ticks greater.
        self.assertEqual(fewest_meets(plan, rates, 30), ())
        self.assertEqual(fewest_meets(plan, rates, 29), (("c", "d"),))
        self.assertEqual(fewest_meets(plan, rates, 20), (("c", "d"),))
        self.assertEqual(fewest_meets(plan, rates, 19), (("c", "d"), ("b", "c")))
        self.assertEqual(fewest_meets(plan, rates, 10), (("c", "d"), ("b", "c")))
        self.assertIsNone(fewest_meets(plan, rates, 9))

    def test_a_meet_that_makes_a_drift_greater(self):
        plan = line_plan("abc")
        rates = ((1, 2), (3, 2), (2, 1))
        # The drifts are -10, 0 and 20 parts; with a meet ahead of b they would be -10, 10 and 30.
        self.assertEqual([row[1] for row in Drift(plan, rates).table], [-10, 0, 20])
        self.assertEqual([row[1] for row in Drift(plan, rates, (("a", "b"),)).table], [-10, 10, 30])
        self.assertEqual(fewest_meets(plan, rates, 20), ())
        self.assertIsNone(fewest_meets(plan, rates, 19))
        rates = ((1, 1), (1, 2), (2, 1))
        # 0, -10 and 10: a meet ahead of c makes it 20.
        self.assertEqual(fewest_meets(plan, rates, 10), ())
        self.assertEqual(Drift(plan, rates, (("b", "c"),)).beyond(10), ("a", "b", "c"))

    def test_arguments(self):
        for plan in (example_plan(), full_plan(4)):
            for rates in (None, (), RATES[:2], RATES * 2):
                self.fails(BadRate, -1, fewest_meets, plan, rates, -1)
        self.fails(BadRate, 1, fewest_meets, example_plan(), ((1, 1), (0, 1), None), None)
        self.fails(BadRate, 3, fewest_meets, full_plan(4), RATES + ((7, 1),), None)
        for limit in (-1, 501, True, False, None, "5", 5.0, (5,), 10 ** 39):
            self.fails(BadNumber, "limit", fewest_meets, example_plan(), RATES, limit)
            self.fails(BadNumber, "limit", fewest_meets, full_plan(4), RATES + ((1, 1),), limit)

    def test_how_many_arrows(self):
        names = "abcdefghijk"
        plan = line_plan(names)
        self.assertEqual(len(plan.arrows), 10)
        rates = ((2, 1),) * 11
        self.assertEqual(fewest_meets(plan, rates, 10), plan.arrows)
        self.assertEqual(fewest_meets(plan, rates, 50), (("a", "b"), ("f", "g")))
        self.assertIsNone(fewest_meets(plan, rates, 9))
        more = line_plan(names, list(plan.arrows) + [("a", "a")], "a", "k")
        self.fails(TooMany, "arrow", fewest_meets, more, rates, 10)
        self.fails(TooMany, "arrow", fewest_meets, line_plan(names + "l"), rates + ((1, 1),), 0)

    def test_against_all_lots(self):
        dice = random.Random(411)
        seen = {}
        for plan in turned(random_plans(411, 200, 3) + rich_plans(412, 200, 3)):
            if len(plan.arrows) > 6:
                continue
            rates = random_rates(dice, plan)
            for limit in (0, dice.randint(0, 60), 500):
                told = slow_fewest(plan, rates, limit)
                self.assertEqual(fewest_meets(plan, rates, limit), told)
                seen[told if told is None else min(3, len(told))] = True
        self.assertEqual(set(seen), {None, 0, 1, 2, 3})
