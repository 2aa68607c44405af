"""[22]: the least room for each pace."""

import random
from fractions import Fraction

from seamfast.curve import Curve
from seamfast.errors import BadPace, BadRoom, NoPlace, TooSlow
from seamfast.forms import fraction
from seamfast.greatest import GreatestLag, least_pace
from seamfast.missed import NothingMissed
from seamfast.plans import Plan
from seamfast.reels import Reel
from tests.samples import Case, example_plan, full_plan, random_plans, rich_plans
from tests.test_lags import BAD_PACES
from tests.test_missed import BAD_ROOMS


def pair(number):
    """A fraction of Python as one of the program."""
    return number.numerator, number.denominator


def told_room(plan, pace):
    """The greatest lag at a pace, in signs."""
    return fraction(GreatestLag(plan, pace).lag, pace[1] * plan.grain)


def longest(plan):
    """The number of signs of the longest text that is sent."""
    return max([0] + [len(plan.reel[cue][3]) for name in plan.names for cue, _ in plan.sends_of(name)])


class ExampleTest(Case):
    def test_example(self):
        plan = example_plan()
        curve = Curve(plan)
        # In a, c, a 44 - 12 signs are sent ahead of the last text, in 36 grains; from 5 / 2 on, a text is read in time.
        self.assertEqual(curve.corners, (((16, 9), (134, 9)), ((5, 2), (12, 1))))
        self.assertEqual((len(curve), tuple(curve)), (2, curve.corners))
        self.assertEqual((curve[0], curve[1]), curve.corners)
        self.assertEqual(curve((16, 9)), (134, 9))
        self.assertEqual(curve([2, 1]), (14, 1))
        self.assertEqual(curve((9, 4)), (13, 1))
        self.assertEqual(curve((5, 2)), (12, 1))
        self.assertEqual(curve((10 ** 39, 1)), (12, 1))

    def test_pace_for(self):
        curve = Curve(example_plan())
        self.assertEqual([curve.pace_for(room) for room in (0, 11)], [None, None])
        self.assertEqual([curve.pace_for(room) for room in (12, 13, 14)], [(5, 2), (9, 4), (2, 1)])
        self.assertEqual([curve.pace_for(room) for room in (15, 16, 2000)], [(16, 9)] * 3)

    def test_errors(self):
        curve = Curve(example_plan())
        for pace in BAD_PACES:
            self.fails(BadPace, (pace,), curve, pace)
        for pace in ((0, 1), (1, 1), [7, 4], (17777, 10000)):
            self.fails(TooSlow, (pace,), curve, pace)
        just_below = fraction(16 * 10 ** 20 - 1, 9 * 10 ** 20)
        self.assertIs(self.fails(TooSlow, (just_below,), curve, just_below).pace, just_below)
        for number in (-1, 2, True, False, None, "0", (0,), [1], 10 ** 39):
            self.fails(NoPlace, (number,), lambda: curve[number])
        for room in BAD_ROOMS:
            self.fails(BadRoom, (room,), curve.pace_for, room)

    def test_nothing_is_sent(self):
        plan = Plan(Reel(20, ((0, 8, "a", "x"),)), (("a", 2, 9, 1, 1, "on"),), (("a", "a"),), ("a",), ("a",))
        curve = Curve(plan)
        self.assertEqual(curve.corners, (((0, 1), (0, 1)),))
        self.assertEqual((curve((0, 1)), curve((7, 5)), curve.pace_for(0), curve.pace_for(9)), ((0, 1), (0, 1), (0, 1), (0, 1)))

    def test_a_least_pace_of_zero(self):
        reel = Reel(20, ((0, 2, "ann", "four"), (3, 5, "bob", "five5"), (6, 7, "bob", "sixsix")))
        pieces = (("a", 0, 3, 1, 1, "on"), ("b", 3, 9, 1, 1, "on"))
        plan = Plan(reel, pieces, (("a", "b"),), ("a",), ("b",))
        curve = Curve(plan)
        # All 15 signs are sent in 6 ticks, 11 of them in 3; at 5 / 3 the last text is read alone.
        self.assertEqual(curve.corners, (((0, 1), (15, 1)), ((4, 3), (7, 1)), ((5, 3), (6, 1))))
        self.assertEqual([curve((above, 6)) for above in (1, 5, 7)], [(14, 1), (10, 1), (8, 1)])
        self.assertEqual(curve((3, 2)), (13, 2))
        self.assertEqual([curve.pace_for(room) for room in (5, 6, 7, 8, 14, 15, 16)], [
            None, (5, 3), (4, 3), (7, 6), (1, 6), (0, 1), (0, 1),
        ])

    def test_one_text_alone(self):
        reel = Reel(20, ((0, 2, "ann", "four"),))
        plan = Plan(reel, (("a", 0, 3, 1, 1, "on"),), (), ("a",), ("a",))
        self.assertEqual(Curve(plan).corners, (((0, 1), (4, 1)),))
        plan = Plan(reel, (("a", 0, 3, 1, 1, "on"),), (("a", "a"),), ("a",), ("a",))
        self.assertEqual(Curve(plan).corners, (((4, 3), (4, 1)),))


class AgainstLagsTest(Case):
    def test_corners(self):
        seen = {}
        for plan in random_plans(91, 150, 4) + rich_plans(92, 250, 4):
            curve = Curve(plan)
            self.assertEqual(curve.corners[0], (least_pace(plan)[0], told_room(plan, least_pace(plan)[0])))
            self.assertEqual(curve.corners[-1][1], (longest(plan), 1))
            paces = [Fraction(*pace) for pace, _ in curve]
            rooms = [Fraction(*room) for _, room in curve]
            self.assertEqual(paces, sorted(set(paces)))
            self.assertEqual(rooms, sorted(set(rooms), reverse=True))
            self.check_rooms(plan, curve, paces, rooms)
            self.check_bends(plan, paces, rooms)
            seen[len(curve)] = seen.get(len(curve), 0) + 1
        self.assertGreater(min(seen[many] for many in (1, 2, 3, 4)), 8)

    def check_rooms(self, plan, curve, paces, rooms):
        """The room is the greatest lag at corners, next to them, and halfway; between two corners it is straight."""
        tiny = Fraction(1, 10 ** 12)
        tried = [paces[-1] + 1, paces[-1] * 3 + 7]
        for pace in paces:
            tried.extend([pace, pace + tiny])
        for left, right in zip(paces, paces[1:]):
            tried.extend([right - tiny, (left + right) / 2, (left + 2 * right) / 3])
            self.assertEqual(
                Fraction(*curve(pair((left + right) / 2))), (Fraction(*curve(pair(left))) + Fraction(*curve(pair(right)))) / 2,
            )
        for pace in tried:
            self.assertEqual(curve(pair(pace)), told_room(plan, pair(pace)))
        self.assertEqual(curve(pair(paces[-1] + 1)), pair(rooms[-1]))
        if paces[0] > 0:
            self.fails(TooSlow, (pair(paces[0] - tiny),), curve, pair(paces[0] - tiny))

    def check_bends(self, plan, paces, rooms):
        """The curve falls less behind each corner than ahead of it, and not at all behind the last one."""
        falls = [(left - right) / (fast - slow) for slow, fast, left, right in zip(paces, paces[1:], rooms, rooms[1:])]
        self.assertEqual(falls + [0], sorted(set(falls + [0]), reverse=True))

    def test_pace_for(self):
        dice = random.Random(93)
        for plan in random_plans(93, 100, 3) + rich_plans(94, 150, 3):
            curve = Curve(plan)
            rooms = [Fraction(*room) for _, room in curve]
            corners = [room for room in rooms if room.denominator == 1]
            tried = [int(room) for room in corners] + [int(room) + 1 for room in rooms]
            tried += [dice.randint(0, int(rooms[0]) + 2), 0, 2000]
            for room in tried:
                self.check_pace_for(plan, curve, room)

    def check_pace_for(self, plan, curve, room):
        """The pace is the least one at which nothing is missed."""
        pace = curve.pace_for(room)
        if room < longest(plan):
            self.assertIsNone(pace)
            return
        self.assertLessEqual(Fraction(*curve(pace)), room)
        if pace != curve.corners[0][0]:
            self.assertEqual(curve(pace), (room, 1))
        if pace[0] > 0:
            self.assertIs(bool(GreatestLag(plan, pace)), True)
            below = fraction(pace[0] * 10 ** 9 - 1, pace[1] * 10 ** 9)
            slower = GreatestLag(plan, below)
            self.assertTrue(not slower or slower.lag > room * below[1] * plan.grain)
        if room * pace[1] * plan.grain <= 10000:
            self.assertIs(bool(NothingMissed(plan, pace, room)), True)

    def test_as_many_pieces_as_are_let(self):
        plan = full_plan()
        curve = Curve(plan)
        self.assertEqual(curve.corners[0], (least_pace(plan)[0], told_room(plan, least_pace(plan)[0])))
        for pace, room in curve:
            self.assertEqual(room, told_room(plan, pace))

    def test_many_corners(self):
        # Texts in quicker and quicker turn: each one more makes a corner.
        cues = []
        at = 0
        for number in range(10):
            cues.append((at, at + 1, "ann", "x" * 20))
            at += 12 - number
        plan = Plan(Reel(at, cues), (("a", 0, at, 1, 1, "on"),), (), ("a",), ("a",))
        curve = Curve(plan)
        self.assertEqual(len(curve), 10)
        self.assertEqual([room for _, room in curve][-1], (20, 1))
        self.assertEqual([pace for pace, _ in curve], [(0, 1)] + [fraction(20, 12 - number) for number in range(9)])
        self.check_rooms(plan, curve, [Fraction(*pace) for pace, _ in curve], [Fraction(*room) for _, room in curve])
