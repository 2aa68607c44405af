"""[21]: rings that gain, the greatest lag, the least pace."""

import random
from fractions import Fraction

from seamfast.errors import BadPace, BadRow, BadWay
from seamfast.forms import fraction
from seamfast.greatest import GreatestLag, gains, least_pace
from seamfast.lags import lags
from seamfast.plans import Plan
from seamfast.reels import Reel
from seamfast.ways import ways
from tests.samples import Case, example_plan, full_plan, random_plans, rich_plans
from tests.test_lags import BAD_PACES, random_pace


def all_rings(plan, most):
    """All rings of at most so many pieces, in their order."""
    rows = [(name,) for name in sorted(plan.names)]
    for _ in range(most):
        for row in rows:
            if row[0] in plan.followers(row[-1]):
                yield row
        rows = [row + (name,) for row in rows for name in plan.followers(row[-1])]


def share(plan, ring):
    """The signs that a ring sends for each tick."""
    signs = sum(len(plan.reel[cue][3]) for name in ring for cue, _ in plan.sends_of(name))
    return Fraction(signs * plan.grain, sum(plan.shown_of(name) for name in ring))


def slowest(plan):
    """The greatest share of a ring, and the least ring that has it."""
    best, ring = Fraction(0), None
    for row in all_rings(plan, len(plan)):
        if share(plan, row) > best:
            best, ring = share(plan, row), row
    return (best.numerator, best.denominator), ring


def greatest_lag(plan, pace, most):
    """The greatest lag behind a send on a way of at most so many pieces, and the least way on which it comes."""
    best, found = 0, None
    for way in ways(plan, most):
        row = lags(plan, way, pace)[:-1]
        if row and max(row) > best:
            best, found = max(row), way
    return best, found


class GreatestTest(Case):
    def test_example(self):
        plan = example_plan()
        verdict = GreatestLag(plan, (2, 1))
        self.assertIs(bool(verdict), True)
        self.assertEqual((verdict.lag, verdict.way, verdict.ring), (28, ("a", "c", "a"), None))
        verdict = GreatestLag(plan, [1, 1])
        self.assertIs(bool(verdict), False)
        self.assertEqual((verdict.lag, verdict.way, verdict.ring), (None, None, ("a", "c")))
        verdict = GreatestLag(plan, (3, 1))
        self.assertEqual((verdict.lag, verdict.way), (24, ("a",)))

    def test_at_the_least_pace_and_just_below(self):
        plan = example_plan()
        self.assertEqual(least_pace(plan), ((16, 9), ("a", "c")))
        self.assertIs(bool(GreatestLag(plan, (16, 9))), True)
        self.assertIs(bool(GreatestLag(plan, fraction(16 * 10 ** 30 - 1, 9 * 10 ** 30))), False)
        # A sign has 18 points, and the lag at the end of a and c is 52.
        self.assertEqual((GreatestLag(plan, (16, 9)).lag, GreatestLag(plan, (16, 9)).way), (268, ("a", "c", "a")))

    def test_nothing_is_sent(self):
        reel = Reel(20, ((0, 8, "a", "x"),))
        plan = Plan(reel, (("a", 2, 9, 1, 1, "on"),), (("a", "a"),), ("a",), ("a",))
        for pace in ((0, 1), (1, 2)):
            verdict = GreatestLag(plan, pace)
            self.assertEqual((bool(verdict), verdict.lag, verdict.way, verdict.ring), (True, 0, None, None))
        self.assertEqual(least_pace(plan), ((0, 1), None))

    def test_without_rings(self):
        reel = Reel(20, ((0, 2, "ann", "four"), (3, 5, "bob", "five5")))
        pieces = (("a", 0, 2, 1, 1, "on"), ("b", 2, 9, 1, 1, "on"), ("c", 0, 1, 1, 1, "on"))
        plan = Plan(reel, pieces, (("a", "b"), ("c", "b")), ("a", "c"), ("b",))
        self.assertEqual(least_pace(plan), ((0, 1), None))
        self.assertEqual((GreatestLag(plan, (0, 1)).lag, GreatestLag(plan, (0, 1)).way), (9, ("a", "b")))
        self.assertEqual((GreatestLag(plan, (1, 1)).lag, GreatestLag(plan, (1, 1)).way), (7, ("c", "b")))
        self.assertEqual((GreatestLag(plan, (2, 1)).lag, GreatestLag(plan, (2, 1)).way), (5, ("a", "b")))

    def test_the_least_of_several_rings(self):
        reel = Reel(20, ((0, 2, "ann", "ten signs."), (3, 5, "bob", "five5")))
        pieces = (("c", 0, 5, 1, 1, "on"), ("b", 5, 6, 1, 1, "on"), ("a", 2, 5, 1, 1, "on"), ("d", 0, 5, 1, 1, "on"))
        arrows = (("c", "b"), ("b", "c"), ("a", "b"), ("b", "a"), ("d", "d"), ("b", "d"), ("d", "b"))
        plan = Plan(reel, pieces, arrows, ("b",), ("a", "b", "c", "d"))
        # The shares are 3 for d, 15 / 6 for b and c or d, 5 / 4 for a and b.
        self.assertEqual(least_pace(plan), ((3, 1), ("d",)))
        self.assertEqual(GreatestLag(plan, (2, 1)).ring, ("d",))
        without = Plan(reel, pieces, arrows[:4] + arrows[5:], ("b",), ("a", "b", "c", "d"))
        self.assertEqual(least_pace(without), ((5, 2), ("b", "c")))
        self.assertEqual(GreatestLag(without, (2, 1)).ring, ("b", "c"))
        self.assertEqual(GreatestLag(without, (1, 1)).ring, ("a", "b"))
        self.assertIsNone(GreatestLag(without, (5, 2)).ring)

    def test_the_first_of_several_ways(self):
        reel = Reel(20, ((0, 2, "ann", "ten signs."), (3, 5, "bob", "five5")))
        pieces = (("c", 0, 1, 1, 1, "on"), ("b", 0, 1, 1, 1, "on"), ("a", 5, 8, 1, 1, "on"))
        plan = Plan(reel, pieces, (("a", "b"), ("a", "c"), ("c", "a")), ("a", "c"), ("a", "b"))
        verdict = GreatestLag(plan, (5, 1))
        self.assertEqual((verdict.lag, verdict.way), (10, ("c",)))
        more = Plan(reel, pieces, (("a", "b"), ("a", "c"), ("c", "a")), ("a",), ("a", "b"))
        self.assertEqual(GreatestLag(more, (5, 1)).way, ("a", "b"))
        # With little time between them the texts of c and b add up.
        more = Plan(reel, pieces, (("a", "b"), ("a", "c"), ("c", "a")), ("c",), ("a", "b"))
        self.assertEqual((GreatestLag(more, (5, 2)).lag, GreatestLag(more, (5, 2)).way), (20, ("c",)))
        self.assertEqual((GreatestLag(more, (49, 20)).ring, GreatestLag(more, (51, 20)).lag), (("a", "c"), 200))

    def test_against_ways_and_rings_one_by_one(self):
        dice = random.Random(81)
        seen = [0, 0, 0]
        for plan in random_plans(81, 250, 3) + rich_plans(82, 300, 3):
            pace = dice.choice((random_pace(dice), least_pace(plan)[0]))
            verdict = GreatestLag(plan, pace)
            gaining = [ring for ring in all_rings(plan, len(plan)) if share(plan, ring) > Fraction(*pace)]
            self.assertIs(bool(verdict), not gaining)
            if gaining:
                seen[0] += 1
                self.assertEqual((verdict.ring, verdict.lag, verdict.way), (gaining[0], None, None))
                self.assertIs(gains(plan, pace, verdict.ring), True)
            else:
                self.assertIsNone(verdict.ring)
                self.assertEqual((verdict.lag, verdict.way), greatest_lag(plan, pace, 2 * len(plan) + 1))
                seen[1 + (verdict.way is not None and len(verdict.way) > 2)] += 1
        self.assertGreater(min(seen), 20)

    def test_a_long_way_to_the_greatest_lag(self):
        # At the least pace a lag is carried along the ring until the long text comes.
        reel = Reel(100, ((0, 1, "ann", "x" * 30), (10, 11, "ann", "x" * 2), (20, 21, "bob", "y" * 40)))
        pieces = [("a", 0, 2, 1, 1, "on")] + [(name, 9, 11, 1, 1, "on") for name in "bcde"] + [("f", 20, 30, 1, 1, "on")]
        arrows = (("a", "b"), ("b", "c"), ("c", "d"), ("d", "e"), ("e", "b"), ("e", "f"))
        plan = Plan(reel, pieces, arrows, ("a",), ("f",))
        self.assertEqual(least_pace(plan), ((1, 1), ("b", "c", "d", "e")))
        verdict = GreatestLag(plan, (1, 1))
        self.assertEqual((verdict.lag, verdict.way), (68, ("a", "b", "c", "d", "e", "f")))

    def test_a_way_that_passes_pieces_twice(self):
        # Each of b to e adds a sign; f sends 50 at its end and reads far more ahead of it; the last text is that of g.
        reel = Reel(300, ((0, 1, "ann", "x" * 3), (150, 151, "ann", "x" * 50), (200, 201, "bob", "x" * 9)))
        pieces = [(name, 0, 2, 1, 1, "on") for name in "bcde"]
        pieces += [("a", 250, 251, 1, 1, "on"), ("f", 51, 151, 1, 1, "on"), ("g", 200, 201, 1, 1, "on")]
        arrows = (("a", "b"), ("b", "c"), ("c", "d"), ("d", "e"), ("e", "f"), ("f", "b"), ("e", "g"))
        plan = Plan(reel, pieces, arrows, ("a",), ("g",))
        verdict = GreatestLag(plan, (1, 1))
        self.assertEqual((verdict.lag, verdict.way), (62, tuple("abcdefbcdeg")))
        self.assertEqual((verdict.lag, verdict.way), greatest_lag(plan, (1, 1), 16))

    def test_errors(self):
        for pace in BAD_PACES:
            self.fails(BadPace, (pace,), GreatestLag, example_plan(), pace)


class GainsTest(Case):
    def test_example(self):
        plan = example_plan()
        for pace, told in (((16, 9), False), ((17, 10), True), ((2, 1), False), ((0, 1), True)):
            self.assertIs(gains(plan, pace, ("a", "c")), told)
            self.assertIs(gains(plan, list(pace), ["c", "a"]), told)
            self.assertIs(gains(plan, pace, ("c", "a") * 200), told)

    def test_errors(self):
        plan = example_plan()
        for pace in BAD_PACES:
            self.fails(BadPace, (pace,), gains, plan, pace, None)
        for ring in ((), None, "ac", ("a", "c") * 200 + ("a",), True):
            self.fails(BadRow, -1, gains, plan, (1, 1), ring)
        self.fails(BadRow, 1, gains, plan, (1, 1), ("b", "d"))
        self.fails(BadRow, 0, gains, plan, (1, 1), (True, "d"))
        # An arrow must lead from the last piece to the first one, and this goes first.
        self.fails(BadWay, 0, gains, plan, (1, 1), ("a",))
        self.fails(BadWay, 0, gains, plan, (1, 1), ("a", "c", "c", "b"))
        self.fails(BadWay, 1, gains, plan, (1, 1), ("a", "a", "c", "a", "c"))
        self.fails(BadWay, 2, gains, plan, (1, 1), ("a", "c", "c"))
        self.fails(BadWay, 3, gains, plan, (1, 1), ("a", "c", "a", "a", "c", "c"))

    def test_against_shares(self):
        dice = random.Random(83)
        seen = set()
        for plan in rich_plans(83, 100, 3):
            pace = random_pace(dice)
            for ring in all_rings(plan, 4):
                told = gains(plan, pace, ring)
                self.assertIs(told, share(plan, ring) > Fraction(*pace))
                seen.add(told)
        self.assertEqual(seen, {True, False})


class LeastPaceTest(Case):
    def test_against_all_rings(self):
        seen = set()
        for plan in random_plans(84, 200, 4) + rich_plans(85, 200, 4):
            pace, ring = least_pace(plan)
            self.assertEqual((pace, ring), slowest(plan))
            self.assertIs(bool(GreatestLag(plan, pace)), True)
            if pace[0]:
                just_below = fraction(pace[0] * 10 ** 20 - 1, pace[1] * 10 ** 20)
                self.assertIs(bool(GreatestLag(plan, just_below)), False)
            seen.add(0 if ring is None else len(ring))
        self.assertLessEqual({0, 1, 2, 3}, seen)

    def test_as_many_pieces_as_are_let(self):
        plan = full_plan()
        # Pieces of two ticks: e and f send 10 signs of cue 1 within them, a sends 12, and so on.
        self.assertEqual(least_pace(plan), ((6, 1), ("a",)))
        names = "abcdefghijkl"
        arrows = [(left, right) for left, right in zip(names, names[1:] + "a")]
        ring = Plan(plan.reel, plan.pieces, arrows, ("a",), ("l",))
        self.assertEqual(least_pace(ring), (slowest(ring)[0], tuple(names)))
