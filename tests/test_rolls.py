"""[8]: rolls."""

import random
from math import gcd

from seamfast.errors import BadItem, NoPlace, TooLong, TooMany
from seamfast.plans import Plan
from seamfast.reels import Reel
from seamfast.rolls import Roll
from seamfast.ways import is_version, row_sends
from tests.samples import (
    Case, example_plan, picture, random_plans, random_roll, seen_sends, seen_showings, unrolled,
)

HUGE = 10 ** 40 - 1


def nested(depth):
    """A piece within so many pairs."""
    written = ("a",)
    for _ in range(depth):
        written = ((2, written),)
    return written


def still_plan():
    """A plan in which one cue is on the screen throughout in a, and comes and goes in b."""
    reel = Reel(20, ((2, 12, "ann", "still here"), (12, 14, "bob", "here"), (16, 18, "ann", "there")))
    pieces = (("a", 4, 8, 1, 1, "on"), ("b", 4, 20, 1, 3, "back"), ("c", 11, 13, 2, 1, "on"))
    arrows = [(left, right) for left in "abc" for right in "abc"]
    return Plan(reel, pieces, arrows, ("a",), ("b",))


class FormTest(Case):
    def test_bad_items(self):
        plan = example_plan()
        for thing in ((), [], None, "a", 5, True, {}):
            self.fails(BadItem, -1, Roll, plan, thing)
        bad = (
            "d", "", None, True, 7, (1, ("a",)), (0, ("a",)), (-2, ("a",)), (True, ("a",)), ("2", ("a",)), (2, ()),
            (2, []), (2, "a"), (2, None), (2,), (2, ("a",), 1), ("a",), ("a", "b"), [2, "a"], {}, 2.0,
        )
        for item in bad:
            self.fails(BadItem, 0, Roll, plan, (item, item))
            self.fails(BadItem, 4, Roll, plan, ("a", (3, ("b", "c")), item, item))
            self.fails(BadItem, 3, Roll, plan, ("a", (3, ("b", item)), None))

    def test_numbers_in_the_order_written(self):
        plan = example_plan()
        self.fails(BadItem, 3, Roll, plan, ((2, ((3, ("a",)), "d")), None))
        self.fails(BadItem, 5, Roll, plan, ((2, ((3, ("a",)), "b")), "c", None))
        self.fails(BadItem, 1, Roll, plan, ((2, ((3, ()), "d")), None))

    def test_pairs_within_one_another(self):
        plan = example_plan()
        self.assertEqual(Roll(plan, nested(5)).size, 32)
        self.fails(BadItem, 6, Roll, plan, nested(6))
        self.fails(BadItem, 6, Roll, plan, nested(9))
        self.fails(BadItem, 8, Roll, plan, ("a", "b") + nested(6) + (None,))
        self.fails(BadItem, 1, Roll, plan, ("a", None) + nested(6))
        round_about = ["a"]
        round_about.append((2, round_about))
        self.fails(BadItem, 12, Roll, plan, round_about)

    def test_many_items(self):
        plan = example_plan()
        self.assertEqual(Roll(plan, ("a",) * 60).size, 60)
        self.fails(TooMany, "item", Roll, plan, ("a",) * 61)
        self.assertEqual(Roll(plan, ((2, ("a",) * 29), (3, ("b",) * 29))).size, 145)
        self.fails(TooMany, "item", Roll, plan, ((2, ("a",) * 30), (3, ("b",) * 29)))
        self.fails(BadItem, 61, Roll, plan, ("a",) * 61 + (None,))

    def test_lists_are_taken_as_tuples(self):
        plan = example_plan()
        inner = ["c", "a"]
        written = ["a", [3, inner], "b"]
        roll = Roll(plan, written)
        self.assertEqual(roll.written, ("a", (3, ("c", "a")), "b"))
        inner.append("b")
        written.clear()
        self.assertEqual(roll.written, ("a", (3, ("c", "a")), "b"))
        self.assertEqual(roll.size, 8)
        self.assertEqual(inner, ["c", "a", "b"])
        self.assertIs(roll.plan, plan)

    def test_equal(self):
        plan = example_plan()
        roll = Roll(plan, ("a", (2, ("c", "a")), "b"))
        self.assertIs(roll == Roll(example_plan(), ["a", [2, ["c", "a"]], "b"]), True)
        self.assertIs(roll == Roll(plan, ("a", "c", "a", "c", "a", "b")), False)
        self.assertIs(roll == Roll(still_plan(), ("a", (2, ("c", "a")), "b")), False)
        for other in (None, roll.written, "a", plan):
            self.assertIs(roll == other, False)


class SmallTest(Case):
    """Rolls against their rows written out, grain by grain."""

    def check(self, plan, written):
        roll = Roll(plan, written)
        row = unrolled(written)
        seen = picture(plan, row)
        shown = seen_showings(plan, row)
        self.assertEqual(roll.size, len(row))
        self.assertEqual(roll.extent, len(seen))
        self.assertEqual(roll.showing_count, len(shown))
        self.assertEqual(roll.send_count, len(seen_sends(plan, row)))
        self.assertEqual(tuple(roll.showing_at(k) for k in range(len(shown))), shown)
        begun = {}
        for grain, (number, name, cue) in enumerate(seen):
            since = begun.setdefault(number, grain)
            self.assertEqual(roll.cue_at(grain), cue)
            self.assertEqual(roll.moment_at(grain), (number, name, self.come_to(plan, name, grain - since)))
        for ask, number in ((roll.cue_at, len(seen)), (roll.moment_at, len(seen)), (roll.showing_at, len(shown))):
            for wrong in (number, -1, True, False, None, "0", 0.0, (0,), number + HUGE):
                self.fails(NoPlace, (wrong,), ask, wrong)
        if len(row) <= 400:
            self.assertEqual(roll.written_out(), tuple(row))
            self.assertIs(roll.is_whole, is_version(plan, row))
        else:
            self.fails(TooLong, len(row), roll.written_out)

    def come_to(self, plan, name, passed):
        _, start, end, above, below, way = plan.piece_of(name)
        factor = above * plan.grain // below
        place = start * factor + passed if way == "on" else end * factor - passed
        common = gcd(place, factor)
        return (place // common, factor // common)

    def test_example(self):
        plan = example_plan()
        roll = Roll(plan, ("a", (3, ("c", "a")), "b"))
        self.assertEqual(roll.showing_at(0), (0, 0, 8))
        self.assertIs(roll.is_whole, True)
        self.assertEqual(roll.moment_at(0), (0, "a", (0, 1)))
        self.assertEqual(roll.moment_at(3), (0, "a", (3, 2)))
        self.assertEqual(roll.moment_at(20), (1, "c", (16, 1)))
        self.assertEqual(roll.moment_at(21), (1, "c", (31, 2)))
        self.check(plan, ("a", (3, ("c", "a")), "b"))
        self.check(plan, ((2, ("b",)),))

    def test_random_rolls(self):
        dice = random.Random(5)
        for plan in random_plans(5, 150):
            for _ in range(3):
                written = random_roll(dice, plan)
                if len(unrolled(written)) <= 60:
                    self.check(plan, written)

    def test_cues_that_stay_on(self):
        plan = still_plan()
        rolls = (
            ("a",), ((5, ("a",)),), ("b", (3, ("a",)), "b"), ((3, ("b", (3, ("a",)))),), ((2, ((2, ("a",)), "b", "a")),),
            ("c", "a", (2, ("a", (2, ("a", "a")))), "c"), ((3, ("c", "b")),), ((2, ("b", "c")), (2, ("c",)), "b"),
        )
        for written in rolls:
            self.check(plan, written)

    def test_rows_at_the_bound(self):
        plan = still_plan()
        self.check(plan, ((20, ((20, ("a",)),)),))
        self.check(plan, ((20, ((20, ("a",)),)), "b"))

    def test_whole(self):
        plan = example_plan()
        for written, whole in (
            (("a", "b"), True), (("b",), False), (("a",), False), (("a", (2, ("c", "a")), "b"), True),
            (((2, ("a", "c")), "a", "b"), True), (((2, ("a", "b")),), False),
            (("a", (2, ("c",)), "a", "b"), False), (("a", "b", "a", "b"), False), (((2, ("a",)), "b"), False),
        ):
            self.assertIs(Roll(plan, written).is_whole, whole)


class HugeTest(Case):
    def test_pairs_within_pairs(self):
        plan = example_plan()
        body = ("c", (HUGE, ("a", "c")), "a")
        roll = Roll(plan, ("a", (HUGE, body), "c", (HUGE, ((HUGE, ("a", "c")), "a", "c")), "a", "b"))
        many = 1 + HUGE * (2 * HUGE + 2) + 1 + HUGE * (2 * HUGE + 2) + 2
        self.assertEqual(roll.size, many)
        self.assertIs(roll.is_whole, True)
        turns = many // 2 - 1
        self.assertEqual(roll.extent, 20 + turns * 36 + 10)
        self.assertEqual(roll.send_count, 2 + turns * 3 + 1)
        # The row is a and c, again and again, so its showings come again turn by turn.
        small = seen_showings(plan, ("a", "c") * 4 + ("a", "b"))
        per_turn = len(seen_showings(plan, ("a", "c") * 5 + ("a", "b"))) - len(small)
        self.assertEqual(roll.showing_count, len(small) + (turns - 4) * per_turn)
        for turn in (1, 2, HUGE, HUGE ** 2, turns - 3):
            for number in range(2 * per_turn):
                cue, begun, over = small[per_turn + number]
                moved = (turn - 1) * 36
                self.assertEqual(roll.showing_at(number + turn * per_turn), (cue, begun + moved, over + moved))
        for number in range(2 * per_turn):
            self.assertEqual(roll.showing_at(number), small[number])
        self.assertEqual(roll.showing_at(roll.showing_count - 1), (2, roll.extent - 6, roll.extent))
        seen = picture(plan, ("a", "c"))
        for moment in (HUGE, HUGE ** 2 + 5, roll.extent - 31, 0, 35, 36):
            self.assertEqual(roll.cue_at(moment), seen[moment % 36][2])
            number, name, _ = roll.moment_at(moment)
            self.assertEqual((number, name), (moment // 36 * 2 + seen[moment % 36][0], seen[moment % 36][1]))
        self.fails(TooLong, many, roll.written_out)
        self.fails(NoPlace, roll.extent, roll.cue_at, roll.extent)
        self.fails(NoPlace, roll.showing_count, roll.showing_at, roll.showing_count)

    def test_one_showing_over_very_many_pieces(self):
        plan = still_plan()
        deep = ("a",)
        for _ in range(5):
            deep = ((HUGE, deep),)
        roll = Roll(plan, deep)
        self.assertEqual((roll.size, roll.extent, roll.showing_count), (HUGE ** 5, 12 * HUGE ** 5, 1))
        self.assertEqual(roll.showing_at(0), (0, 0, 12 * HUGE ** 5))
        self.assertEqual(roll.cue_at(12 * HUGE ** 5 - 1), 0)
        self.assertEqual(roll.moment_at(12 * HUGE ** 5 - 1), (HUGE ** 5 - 1, "a", (23, 3)))
        around = Roll(plan, ("b", (HUGE, ("a", (HUGE, ("a",)))), "b", (HUGE, ("b", "a"))))
        long = 12 * (HUGE ** 2 + HUGE)
        alone = seen_showings(plan, ("b",))
        last = alone[-1]
        self.assertEqual(around.showing_at(len(alone) - 1), (0, last[1], 16 + long))
        self.assertEqual(around.showing_at(len(alone)), (2, 16 + long + alone[0][1], 16 + long + alone[0][2]))
        self.assertEqual(around.showing_count, len(alone) * (2 + HUGE))
        self.assertEqual(around.showing_at(around.showing_count - 1)[2], around.extent)

    def test_sends_of_a_long_roll(self):
        plan = example_plan()
        self.assertEqual(Roll(plan, ((HUGE, ("a", "b")),)).send_count, HUGE * len(row_sends(plan, ("a", "b"))))
        self.assertIs(Roll(plan, ((HUGE, ("a", "b")),)).is_whole, False)
