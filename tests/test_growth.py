"""[23]: how much longer texts may be."""

import random
from fractions import Fraction

from seamfast.errors import BadCue, BadPace, BadRoom, TooMany
from seamfast.greatest import least_pace
from seamfast.growth import cue_room, growth
from seamfast.missed import NothingMissed
from seamfast.plans import Plan
from seamfast.reels import Reel
from seamfast.ways import ways
from tests.samples import Case, example_plan, random_plans, rich_plans
from tests.test_greatest import all_rings, share
from tests.test_lags import BAD_PACES, random_pace
from tests.test_missed import BAD_ROOMS


def retold(plan, texts):
    """The plan with other texts, as a dict by numbers of cues."""
    cues = [cue[:3] + (texts.get(number, cue[3]),) for number, cue in enumerate(plan.reel)]
    return Plan(Reel(plan.reel.length, cues), plan.pieces, plan.arrows, plan.starts, plan.ends)


def is_borne(plan, pace, room, factor):
    """Whether nothing is missed if all texts have so many times as many signs, by ways and rings one by one."""
    pace = Fraction(*pace)
    if any(share(plan, ring) * factor > pace for ring in all_rings(plan, len(plan))):
        return False
    for way in ways(plan, 2 * len(plan) + 1):
        lag, last, begun = Fraction(0), 0, 0
        for name in way:
            for cue, moment in plan.sends_of(name):
                lag = max(0, lag - pace * Fraction(begun + moment - last, plan.grain)) + factor * len(plan.reel[cue][3])
                last = begun + moment
                if lag > room:
                    return False
            begun += plan.shown_of(name)
    return True


class GrowthTest(Case):
    def test_example(self):
        plan = example_plan()
        # The ring of a and c sends 16 / 9 signs in a tick, and 12 signs come at once.
        self.assertEqual(growth(plan, (16, 9), 100), (1, 1))
        self.assertEqual(growth(plan, (2, 1), 100), (9, 8))
        self.assertEqual(growth(plan, (32, 9), 100), (2, 1))
        self.assertEqual(growth(plan, [2, 1], 14), (1, 1))
        self.assertEqual(growth(plan, (2, 1), 13), (21, 22))
        self.assertEqual(growth(plan, (100, 1), 15), (5, 4))
        self.assertEqual(growth(plan, (100, 1), 7), (7, 12))

    def test_zero(self):
        plan = example_plan()
        self.assertEqual(growth(plan, (0, 1), 2000), (0, 1))
        self.assertEqual(growth(plan, (7, 1), 0), (0, 1))
        self.assertEqual(growth(plan, (0, 1), 0), (0, 1))

    def test_nothing_is_sent(self):
        plan = Plan(Reel(20, ((0, 8, "a", "x"),)), (("a", 2, 9, 1, 1, "on"),), (("a", "a"),), ("a",), ("a",))
        for pace in ((0, 1), (1, 2)):
            for room in (0, 5):
                self.assertIsNone(growth(plan, pace, room))
                self.assertIsNone(cue_room(plan, pace, room, 0))

    def test_without_rings(self):
        reel = Reel(20, ((0, 2, "ann", "four"), (3, 5, "bob", "five5")))
        plan = Plan(reel, (("a", 0, 9, 1, 1, "on"),), (), ("a",), ("a",))
        self.assertEqual(growth(plan, (0, 1), 12), (4, 3))
        self.assertEqual(growth(plan, (1, 1), 12), (5, 3))
        self.assertEqual(growth(plan, (3, 1), 12), (7, 3))
        self.assertEqual(growth(plan, (9, 1), 12), (12, 5))
        self.assertEqual(growth(plan, (0, 1), 0), (0, 1))
        self.assertEqual(growth(plan, (1, 1), 0), (0, 1))

    def test_a_ring_that_gains_as_soon_as_texts_are_longer(self):
        reel = Reel(20, ((0, 2, "ann", "four"),))
        plan = Plan(reel, (("a", 0, 4, 1, 1, "on"),), (("a", "a"),), ("a",), ("a",))
        for room in (4, 5, 2000):
            self.assertEqual(growth(plan, (1, 1), room), (1, 1))
        self.assertEqual(growth(plan, (1, 1), 3), (3, 4))
        self.assertEqual(growth(plan, (3, 2), 2000), (3, 2))

    def test_against_ways_and_rings_one_by_one(self):
        dice = random.Random(101)
        seen = [0, 0, 0]
        for plan in random_plans(101, 120, 3) + rich_plans(102, 200, 3):
            pace = dice.choice((random_pace(dice), least_pace(plan)[0]))
            room = dice.choice((0, 1, 3, 8, 12, 16, 20, 30, 40, 60, 100, 2000))
            told = growth(plan, pace, room)
            if told is None:
                self.assertFalse([name for name in plan if plan.sends_of(name)])
                seen[0] += 1
                continue
            factor = Fraction(*told)
            self.assertEqual((factor.numerator, factor.denominator), told)
            self.assertTrue(is_borne(plan, pace, room, factor))
            self.assertFalse(is_borne(plan, pace, room, factor + Fraction(1, 10 ** 9)))
            seen[1 if factor == 0 else 2] += 1
        self.assertGreater(min(seen), 10)

    def test_against_longer_texts(self):
        dice = random.Random(103)
        seen = set()
        for plan in rich_plans(103, 150, 3):
            plan = retold(plan, {number: "abcdefg"[:dice.randint(1, 7)] for number in range(len(plan.reel))})
            pace = dice.choice(((1, 1), (2, 1), (4, 1), (7, 1), (15, 1)))
            room = dice.choice((10, 20, 40))
            told = growth(plan, pace, room)
            if told is None:
                continue
            for times in (1, 2, 3, 4, 5, 6, 8):
                longer = retold(plan, {number: cue[3] * times for number, cue in enumerate(plan.reel)})
                kept = bool(NothingMissed(longer, pace, room))
                self.assertIs(kept, told[0] >= times * told[1])
                seen.add(kept)
        self.assertEqual(seen, {True, False})

    def test_errors(self):
        plan = example_plan()
        for pace in BAD_PACES:
            self.fails(BadPace, (pace,), growth, plan, pace, -1)
            self.fails(BadPace, (pace,), cue_room, plan, pace, -1, -1)
        for room in BAD_ROOMS:
            self.fails(BadRoom, (room,), growth, plan, (1, 1), room)
            self.fails(BadRoom, (room,), cue_room, plan, (1, 1), room, -1)
        for cue in (-1, 3, True, False, None, "0", (0,), [0], 10 ** 39):
            self.fails(BadCue, (cue,), cue_room, plan, (1, 1), 5, cue)


class CueRoomTest(Case):
    def test_example(self):
        plan = example_plan()
        # In a, c, a the text of cue 0 comes on top of 2 signs; the ring bears 4 signs more; ahead of cue 2 all is read.
        self.assertEqual([cue_room(plan, (2, 1), 14, cue) for cue in range(3)], [12, 10, 14])
        self.assertEqual([cue_room(plan, (2, 1), 20, cue) for cue in range(3)], [16, 12, 20])
        self.assertEqual([cue_room(plan, [2, 1], 2000, cue) for cue in range(3)], [16, 12, 2000])

    def test_minus_one(self):
        plan = example_plan()
        self.assertEqual([cue_room(plan, (2, 1), 11, cue) for cue in range(3)], [9, -1, -1])
        self.assertEqual([cue_room(plan, (1, 1), 2000, cue) for cue in range(3)], [-1, 3, -1])
        self.assertEqual([cue_room(plan, (0, 1), 2000, cue) for cue in range(3)], [-1, -1, -1])
        self.assertEqual([cue_room(plan, (2, 1), 0, cue) for cue in range(3)], [-1, -1, -1])

    def test_no_signs(self):
        reel = Reel(20, ((0, 2, "ann", "four"), (3, 5, "bob", "five5"), (6, 9, "ann", "never")))
        plan = Plan(reel, (("a", 0, 4, 1, 1, "on"), ("b", 0, 2, 1, 1, "back")), (), ("a", "b"), ("a", "b"))
        self.assertEqual([cue_room(plan, (1, 1), 5, cue) for cue in range(3)], [3, 4, None])
        self.assertEqual([cue_room(plan, (1, 1), 4, cue) for cue in range(3)], [-1, 3, None])
        # Without the other text 0 signs are borne even where nothing is held.
        alone = Plan(reel, (("b", 0, 2, 1, 1, "back"),), (("b", "b"),), ("b",), ("b",))
        self.assertEqual([cue_room(alone, (1, 1), 0, cue) for cue in range(3)], [0, None, None])
        self.assertEqual([cue_room(alone, (0, 1), 9, cue) for cue in range(3)], [0, None, None])

    def test_sent_several_times_one_behind_the_other(self):
        reel = Reel(20, ((3, 5, "ann", "four"), (9, 12, "bob", "five5")))
        plan = Plan(reel, (("a", 3, 5, 1, 1, "on"), ("b", 8, 12, 1, 1, "on")),
                    (("a", "a"), ("a", "b"), ("b", "a")), ("a",), ("b",))
        # The ring of a alone bears 2 * 3 signs; in 9 signs of room the text of b follows what a leaves.
        self.assertEqual(cue_room(plan, (3, 1), 2000, 0), 6)
        self.assertEqual(cue_room(plan, (3, 1), 6, 0), 6)
        self.assertEqual(cue_room(plan, (3, 1), 5, 0), 5)
        self.assertEqual(cue_room(plan, (3, 1), 2000, 1), 14)

    def test_against_other_texts(self):
        dice = random.Random(104)
        seen = set()
        for plan in random_plans(104, 60, 3) + rich_plans(105, 100, 3):
            pace = dice.choice((random_pace(dice), least_pace(plan)[0]))
            room = dice.choice((0, 3, 8, 16, 30, 45))
            if room * pace[1] * plan.grain > 10000:
                continue
            for cue in range(len(plan.reel)):
                told = cue_room(plan, pace, room, cue)
                kept = [0] + [signs for signs in range(1, room + 2)
                              if NothingMissed(retold(plan, {cue: "x" * signs}), pace, room)]
                if not any(cue == sent for name in plan for sent, _ in plan.sends_of(name)):
                    self.assertIsNone(told)
                elif told < 1:
                    self.assertEqual(kept, [0])
                    self.assertIs(is_kept_without(plan, pace, room, cue), told == 0)
                else:
                    self.assertEqual(kept, list(range(told + 1)))
                seen.add(told if told in (None, -1, 0) else 1)
        self.assertEqual(seen, {None, -1, 0, 1})

    def test_great_rooms(self):
        plan = example_plan()
        self.fails(TooMany, "point", NothingMissed, plan, (10001, 5000), 2000)
        self.assertEqual(cue_room(plan, (10001, 5000), 2000, 2), 2000)
        self.assertEqual(cue_room(plan, (10 ** 39, 1), 2000, 1), 2000)


def is_kept_without(plan, pace, room, cue):
    """Whether nothing is missed if a text has no signs, so that it is as if it were not sent."""
    cues = [one for number, one in enumerate(plan.reel) if number != cue]
    without = Plan(Reel(plan.reel.length, cues), plan.pieces, plan.arrows, plan.starts, plan.ends)
    return bool(NothingMissed(without, pace, room))
