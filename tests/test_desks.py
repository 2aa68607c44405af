"""[24]: live desks."""

import random

from seamfast.desks import Desk
from seamfast.errors import BadCoins, BadCue, BadNumber, BadPace, BadRoom, BadWording, Unknown
from seamfast.plans import Plan
from seamfast.reels import Reel
from tests.samples import Case, example_plan, rich_plans
from tests.test_missed import gone_through

WORDINGS = (((12, 0), (5, 1)), ((10, 0), (6, 1), (2, 3)), ((8, 0),))
BAD_NUMBERS = (-1, True, False, None, "1", 1.0, (1,), 10 ** 39)


def example_desk(**more):
    """A desk over the plan of the document's example."""
    parts = {"wordings": WORDINGS, "pace": (2, 1), "room": 12, "most": 3, "income": 1}
    parts.update(more)
    return Desk(example_plan(), parts["wordings"], parts["pace"], parts["room"], parts["most"], parts["income"])


def random_desk(dice, plan, room=None, most=None):
    """A desk over a plan."""
    wordings = []
    for cue in plan.reel:
        signs = len(cue[3])
        pairs = [(min(60, signs), dice.choice((0, 0, 1)))]
        for _ in range(dice.randint(0, 2)):
            pairs.append((dice.randint(0, pairs[-1][0]), dice.randint(0, 3)))
        wordings.append(tuple(pairs))
    pace = dice.choice(((1, 1), (2, 1), (3, 2), (3, 1), (4, 3), (5, 1)))
    room = dice.choice((4, 8, 12, 16, 20, 30)) if room is None else room
    most = dice.randint(0, 4) if most is None else most
    return Desk(plan, tuple(wordings), pace, room, most, dice.randint(0, 2))


def slowly_done(desk, name, level, lag, coins):
    """What a desk tells as done, grain by grain."""
    plan = desk.plan
    chosen = [pairs[level] if level < len(pairs) else pairs[-1] for pairs in desk.wordings]
    coins = min(desk.most, coins + desk.income) - sum(chosen[cue][1] for cue, _ in plan.sends_of(name))
    missed = False
    sends = {moment: cue for cue, moment in plan.sends_of(name)}
    for grain in range(plan.shown_of(name)):
        if grain in sends:
            lag += chosen[sends[grain]][0] * desk.pace[1] * plan.grain
            missed = missed or lag > desk.room * desk.pace[1] * plan.grain
        lag = max(0, lag - desk.pace[0])
    return None if missed or coins < 0 else (lag, coins)


class MadeTest(Case):
    def test_attributes(self):
        desk = example_desk()
        self.assertEqual(desk.plan, example_plan())
        self.assertEqual((desk.wordings, desk.pace, desk.room, desk.most, desk.income), (WORDINGS, (2, 1), 12, 3, 1))
        self.assertEqual((desk.levels, desk.full_points), (3, 24))
        self.assertEqual(example_desk(pace=(60, 1)).full_points, 24)
        self.assertEqual(example_desk(pace=(5, 6)).full_points, 144)

    def test_lists(self):
        wordings = [[[12, 0], [5, 1]], [[10, 0], [6, 1], [2, 3]], [[8, 0]]]
        pace = [2, 1]
        desk = example_desk(wordings=wordings, pace=pace)
        self.assertEqual((desk.wordings, desk.pace), (WORDINGS, (2, 1)))
        self.assertEqual((wordings, pace), ([[[12, 0], [5, 1]], [[10, 0], [6, 1], [2, 3]], [[8, 0]]], [2, 1]))
        self.assertIs(desk == example_desk(), True)

    def test_no_cues(self):
        plan = Plan(Reel(5), (("a", 0, 5, 1, 1, "on"),), (("a", "a"),), ("a",), ("a",))
        desk = Desk(plan, (), (1, 1), 0, 0, 0)
        self.assertEqual((desk.levels, desk.full_points, desk.cost("a", 0)), (1, 0, 0))
        self.assertEqual(desk.done("a", 0, 0, 0), (0, 0))
        self.fails(BadCue, 0, desk.wording, 0, 0)
        self.fails(BadNumber, "level", desk.cost, "a", 1)

    def test_bad_wordings(self):
        for wordings in (None, 5, "abc", WORDINGS[:2], WORDINGS + (((1, 1),),), (), {}, True):
            self.fails(BadWording, -1, example_desk, wordings=wordings, pace=None)
        good = (60, 9)
        for pairs in (
            (), None, 5, "ab", (good,) * 4, ((61, 0),), ((-1, 0),), ((5, 10),), ((5, -1),), ((True, 0),), ((5, False),),
            ((5,),), ((5, 0, 0),), (5, 0), (None,), (good, (61, 0)), ((5.0, 0),), (("5", 0),), ("50",), {}, True, (good, good, None),
        ):
            for number in range(3):
                wordings = [((1, 1),)] * 3
                wordings[number] = pairs
                self.fails(BadWording, number, example_desk, wordings=wordings, pace=None, room=-1)
                wordings[2] = None
                self.fails(BadWording, number, example_desk, wordings=tuple(wordings), pace=None)
        for pairs in ((good,), (good,) * 3, ((0, 0),), [good, [0, 9], (60, 0)]):
            desk = example_desk(wordings=[pairs] * 3)
            self.assertEqual((desk.levels, desk.wording(2, len(pairs) - 1)), (len(pairs), tuple(pairs[-1])))

    def test_bad_paces(self):
        for pace in ((1, 1), (60, 1), (1, 6), (59, 6), [7, 5]):
            self.assertEqual(example_desk(pace=pace).pace, tuple(pace))
        for pace in (
            (0, 1), (61, 1), (61, 6), (1, 7), (60, 7), (2, 2), (4, 6), (-1, 1), (1, 0), (1, -1), (True, 1), (1, True), None,
            (1,), (1, 1, 1), 1, "11", (1.0, 1), (), {},
        ):
            self.fails(BadPace, (pace,), example_desk, pace=pace, room=-1, most=-1, income=-1)

    def test_bad_rooms_and_coins(self):
        for room in (0, 100):
            self.assertEqual(example_desk(room=room).full_points, 2 * room)
        for room in BAD_NUMBERS + (101,):
            self.fails(BadRoom, (room,), example_desk, room=room, most=-1, income=-1)
        for coins in (0, 9):
            self.assertEqual((example_desk(most=coins).most, example_desk(income=coins).income), (coins, coins))
        for coins in BAD_NUMBERS + (10,):
            self.fails(BadCoins, (coins,), example_desk, most=coins, income=-5)
            self.fails(BadCoins, (coins,), example_desk, income=coins)

    def test_equal(self):
        desk = example_desk()
        self.assertIs(desk == example_desk(), True)
        for more in ({"wordings": WORDINGS[:2] + (((8, 1),),)}, {"pace": (2, 3)}, {"room": 13}, {"most": 4}, {"income": 2}):
            self.assertIs(desk == example_desk(**more), False)
        plan = example_plan()
        other = Plan(plan.reel, plan.pieces, plan.arrows, ("a",), ("b", "c"))
        self.assertIs(desk == Desk(other, WORDINGS, (2, 1), 12, 3, 1), False)
        for thing in (None, 5, (plan, WORDINGS, (2, 1), 12, 3, 1), plan):
            self.assertIs(desk == thing, False)
            self.assertIs(thing == desk, False)


class LevelTest(Case):
    def test_wordings(self):
        desk = example_desk()
        self.assertEqual([desk.wording(0, level) for level in range(3)], [(12, 0), (5, 1), (5, 1)])
        self.assertEqual([desk.wording(1, level) for level in range(3)], [(10, 0), (6, 1), (2, 3)])
        self.assertEqual([desk.wording(2, level) for level in range(3)], [(8, 0)] * 3)
        for cue in BAD_NUMBERS + (3,):
            self.fails(BadCue, (cue,), desk.wording, cue, -1)
        for level in BAD_NUMBERS + (3,):
            self.fails(BadNumber, "level", desk.wording, 1, level)

    def test_costs(self):
        desk = example_desk()
        self.assertEqual([desk.cost("a", level) for level in range(3)], [0, 2, 4])
        self.assertEqual([desk.cost("b", level) for level in range(3)], [0, 0, 0])
        self.assertEqual([desk.cost("c", level) for level in range(3)], [0, 1, 3])
        for name in ("d", "", None, True, ("a",), ["a"], 5):
            self.fails(Unknown, (name,), desk.cost, name, -1)
            self.fails(Unknown, (name,), desk.done, name, -1, 0, 0)
        for level in BAD_NUMBERS + (3,):
            self.fails(BadNumber, "level", desk.cost, "a", level)
            self.fails(BadNumber, "level", desk.done, "a", level, 0, 0)


class DoneTest(Case):
    def test_example(self):
        desk = example_desk()
        # At level 0 the lags of a are 24, 20 and 4 points; at level 1 the texts have 5 and 6 signs.
        self.assertEqual(desk.done("a", 0, 0, 3), (4, 3))
        self.assertIsNone(desk.done("a", 0, 1, 3))
        self.assertEqual(desk.done("a", 1, 0, 3), (0, 1))
        self.assertEqual(desk.done("a", 1, 14, 3), (0, 1))
        self.assertIsNone(desk.done("a", 1, 15, 3))
        self.assertEqual(example_desk(pace=(1, 1)).done("a", 1, 14, 3), (16, 1))

    def test_coins(self):
        desk = example_desk(income=1, most=3)
        # The income comes ahead of the price, as far as the purse holds it.
        self.assertEqual(desk.done("a", 0, 0, 0), (4, 1))
        self.assertEqual(desk.done("a", 0, 0, 3), (4, 3))
        self.assertEqual(desk.done("a", 1, 0, 1), (0, 0))
        self.assertIsNone(desk.done("a", 1, 0, 0))
        self.assertEqual(desk.done("c", 2, 0, 2), (0, 0))
        self.assertEqual(desk.done("c", 2, 0, 3), (0, 0))
        self.assertIsNone(desk.done("c", 2, 0, 1))
        self.assertIsNone(desk.done("a", 2, 0, 3))
        self.assertEqual(example_desk(most=4).done("a", 2, 0, 3), (0, 0))
        self.assertIsNone(example_desk(most=0, income=9).done("a", 1, 0, 0))

    def test_pieces_without_sends(self):
        reel = Reel(20, ((0, 8, "a", "x"),))
        plan = Plan(reel, (("a", 2, 5, 1, 1, "on"),), (("a", "a"),), ("a",), ("a",))
        desk = Desk(plan, (((5, 9),),), (2, 1), 5, 0, 0)
        self.assertEqual(desk.cost("a", 0), 0)
        self.assertEqual([desk.done("a", 0, lag, 0) for lag in (0, 5)], [(0, 0), (0, 0)])
        slow = Desk(plan, (((5, 9),),), (1, 2), 5, 0, 0)
        self.assertEqual([slow.done("a", 0, lag, 0) for lag in (0, 2, 3, 10)], [(0, 0), (0, 0), (0, 0), (7, 0)])

    def test_no_signs(self):
        reel = Reel(20, ((0, 8, "a", "x"),))
        plan = Plan(reel, (("a", 0, 5, 1, 1, "on"),), (("a", "a"),), ("a",), ("a",))
        desk = Desk(plan, (((0, 2), (5, 0)),), (2, 1), 4, 2, 1)
        self.assertEqual(desk.done("a", 0, 4, 1), (0, 0))
        self.assertIsNone(desk.done("a", 0, 4, 0))
        self.assertIsNone(desk.done("a", 1, 0, 0))

    def test_against_grains(self):
        dice = random.Random(111)
        seen = [0, 0]
        for plan in rich_plans(111, 200, 3):
            desk = random_desk(dice, plan)
            for name in plan:
                for level in range(desk.levels):
                    lag, coins = dice.randint(0, desk.full_points), dice.randint(0, desk.most)
                    for start in (0, lag, desk.full_points):
                        told = desk.done(name, level, start, coins)
                        self.assertEqual(told, slowly_done(desk, name, level, start, coins))
                        seen[told is None] += 1
        self.assertGreater(min(seen), 100)


class AlteredTest(Case):
    def test_neither_one_and_both(self):
        desk = example_desk()
        self.assertIs(desk.altered() == desk, True)
        self.assertIs(desk.altered(new_room=20) == example_desk(room=20), True)
        self.assertIs(desk.altered(new_most=0) == example_desk(most=0), True)
        self.assertIs(desk.altered(new_room=0, new_most=9) == example_desk(room=0, most=9), True)
        self.assertEqual(desk.altered(new_room=20).full_points, 40)
        self.assertIs(desk == example_desk(), True)
        for room in (-1, 101, True, False, "5"):
            self.fails(BadRoom, room, desk.altered, new_room=room, new_most=-1)
        for most in (-1, 10, True, False, "5"):
            self.fails(BadCoins, most, desk.altered, new_most=most)

    def test_plain(self):
        plan = example_plan()
        desk = Desk.plain(plan, [2, 1], 14)
        self.assertIs(desk == Desk(plan, (((12, 0),), ((10, 0),), ((8, 0),)), (2, 1), 14, 0, 0), True)
        self.assertEqual((desk.levels, desk.wordings), (1, (((12, 0),), ((10, 0),), ((8, 0),))))
        self.assertEqual(desk.done("a", 0, 4, 0), (8, 0))
        self.assertEqual(gone_through(plan, (2, 1), 28, "a", 4), (False, 8))
        self.fails(BadPace, ((61, 1),), Desk.plain, plan, (61, 1), -1)
        self.fails(BadRoom, 101, Desk.plain, plan, (60, 1), 101)
