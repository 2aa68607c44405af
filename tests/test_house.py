"""[46]: houses."""

import random

from seamfast.errors import BadName, CaptionError, InUse, TooMany, Twice, Unknown, Unlike
from seamfast.house import House
from seamfast.plans import Plan
from seamfast.reels import Reel
from seamfast.rolls import Roll
from tests.samples import Case, example_plan, random_plans, random_roll

BAD_NAMES = ("", "A", "a b", "abcdefghi", "a1", None, 5, True, ("a",), ["a"], {}, b"a")


def example_house():
    """A house with a reel, a plan over it and a roll over the plan."""
    house = House()
    house.keep_reel("tape", example_plan().reel)
    house.keep_plan("cut", "tape", example_plan())
    house.keep_roll("show", "cut", Roll(example_plan(), ("a", (3, ("c", "a")), "b")))
    return house


def other_plan():
    """A plan over the same reel that is not equal to the example."""
    plan = example_plan()
    return Plan(plan.reel, plan.pieces, plan.arrows, ("a",), ("b", "a"))


class SlowHouse:
    """A house as a list of things."""

    def __init__(self):
        self.things = []
        self.deeds = 0

    def names(self, kind=None):
        return [name for name, one, _, _ in self.things if kind in (None, one)]

    def keep(self, kind, name, of, thing):
        """The error of adding a thing, or None."""
        if not isinstance(name, str) or not name.isalpha() or not name.islower() or len(name) > 8:
            return BadName
        if name in self.names():
            return Twice
        under = {"plan": "reel", "roll": "plan"}.get(kind)
        if under is not None and of not in self.names(under):
            return Unknown
        if under is not None:
            kept = [one for other, _, _, one in self.things if other == of][0]
            if kept != (thing.reel if kind == "plan" else thing.plan):
                return Unlike
        if len(self.things) >= 30:
            return TooMany
        self.things.append((name, kind, of, thing))
        self.deeds += 1
        return None

    def strike(self, name):
        """The error of striking a thing, or None."""
        if not name.isalpha() or not name.islower():
            return BadName
        if name not in self.names():
            return Unknown
        if any(of == name for _, _, of, _ in self.things):
            return InUse
        self.things = [thing for thing in self.things if thing[0] != name]
        self.deeds += 1
        return None


class KeepTest(Case):
    def test_example(self):
        house = example_house()
        self.assertEqual((len(house), list(house), house.deed_count), (3, ["tape", "cut", "show"], 3))
        self.assertEqual(house["tape"], example_plan().reel)
        self.assertEqual(house["cut"], example_plan())
        self.assertEqual(house["show"].size, 8)
        self.assertEqual([house.over(name) for name in house], [None, "tape", "cut"])
        reel = Reel(5)
        house.keep_reel("more", reel)
        self.assertIs(house["more"], reel)

    def test_an_empty_house(self):
        house = House()
        self.assertEqual((len(house), list(house), house.deed_count), (0, [], 0))
        self.assertIs("a" in house, False)
        self.fails(Unknown, "a", house.strike, "a")

    def test_bad_names(self):
        house = example_house()
        plan = example_plan()
        for name in BAD_NAMES:
            self.fails(BadName, (name,), house.keep_reel, name, plan.reel)
            self.fails(BadName, (name,), house.keep_plan, name, "nothing", plan)
            self.fails(BadName, (name,), house.keep_roll, name, None, Roll(plan, ("a",)))
            self.fails(BadName, (name,), house.strike, name)
            self.assertIs(name in house, False)
            self.fails(Unknown, (name,), house.over, name)
            self.fails(Unknown, (name,), lambda at: house[at], name)
        self.assertEqual(house, example_house())
        house.keep_reel("abcdefgh", plan.reel)

    def test_twice(self):
        house = example_house()
        plan, roll = example_plan(), Roll(example_plan(), ("a",))
        for name in ("tape", "cut", "show"):
            self.fails(Twice, name, house.keep_reel, name, plan.reel)
            self.fails(Twice, name, house.keep_plan, name, "nothing", plan)
            self.fails(Twice, name, house.keep_roll, name, "nothing", roll)

    def test_unknown(self):
        house = example_house()
        plan, roll = example_plan(), Roll(example_plan(), ("a",))
        for of in ("nothing", "cut", "show", "new", None, 5, True, ("tape",), ["tape"], ""):
            self.fails(Unknown, (of,), house.keep_plan, "new", of, plan)
            self.fails(Unknown, (of,), house.keep_plan, "new", of, random_plans(1, 1)[0])
        for of in ("nothing", "tape", "show", "new", None, 5, True, ("cut",), ["cut"], ""):
            self.fails(Unknown, (of,), house.keep_roll, "new", of, roll)
        house.strike("show")
        house.strike("cut")
        self.fails(Unknown, "cut", house.keep_roll, "new", "cut", roll)

    def test_unlike(self):
        house = example_house()
        reel = Reel(20, example_plan().reel.cues[:2])
        plan = Plan(reel, example_plan().pieces, example_plan().arrows, ("a",), ("b",))
        self.fails(Unlike, "reel", house.keep_plan, "new", "tape", plan)
        self.fails(Unlike, "plan", house.keep_roll, "new", "cut", Roll(plan, ("a",)))
        self.fails(Unlike, "plan", house.keep_roll, "new", "cut", Roll(other_plan(), ("a",)))
        # An equal thing that is another object is none that is unlike.
        self.assertIsNot(house["tape"], example_plan().reel)
        house.keep_plan("new", "tape", other_plan())
        house.keep_roll("newer", "new", Roll(other_plan(), ("a",)))
        self.assertEqual([house.over(name) for name in house], [None, "tape", "cut", "tape", "new"])

    def test_thirty_things(self):
        house = example_house()
        names = ["x" * number + letter for number in range(7) for letter in "abcd"][:27]
        for name in names:
            house.keep_reel(name, Reel(5))
        self.assertEqual((len(house), house.deed_count), (30, 30))
        plan, roll = example_plan(), Roll(example_plan(), ("a",))
        self.fails(TooMany, "thing", house.keep_reel, "new", Reel(5))
        self.fails(TooMany, "thing", house.keep_plan, "new", "tape", plan)
        self.fails(TooMany, "thing", house.keep_roll, "new", "cut", roll)
        # All other errors go ahead.
        self.fails(BadName, "", house.keep_reel, "", Reel(5))
        self.fails(Twice, "a", house.keep_reel, "a", Reel(5))
        self.fails(Unknown, "new", house.keep_plan, "new", "new", plan)
        self.fails(Unlike, "reel", house.keep_plan, "new", "a", plan)
        self.fails(Unlike, "plan", house.keep_roll, "new", "cut", Roll(other_plan(), ("a",)))
        self.assertEqual((len(house), house.deed_count), (30, 30))
        house.strike("b")
        house.keep_plan("b", "tape", plan)
        self.assertEqual((len(house), house.deed_count, list(house)[-1]), (30, 32, "b"))


class StrikeTest(Case):
    def test_in_use(self):
        house = example_house()
        house.keep_plan("second", "tape", other_plan())
        house.keep_roll("third", "cut", Roll(example_plan(), ("b",)))
        self.fails(InUse, "cut", house.strike, "tape")
        self.fails(InUse, "show", house.strike, "cut")
        house.strike("show")
        self.fails(InUse, "third", house.strike, "cut")
        house.strike("third")
        house.strike("cut")
        self.fails(InUse, "second", house.strike, "tape")
        self.fails(Unknown, "cut", house.strike, "cut")
        house.strike("second")
        house.strike("tape")
        self.assertEqual((len(house), list(house), house.deed_count), (0, [], 10))

    def test_the_first_of_several(self):
        house = House()
        plan = example_plan()
        house.keep_reel("tape", plan.reel)
        for name in ("zz", "b", "a"):
            house.keep_plan(name, "tape", plan)
        self.fails(InUse, "zz", house.strike, "tape")
        house.strike("zz")
        house.keep_plan("zz", "tape", plan)
        self.fails(InUse, "b", house.strike, "tape")

    def test_added_again(self):
        house = example_house()
        house.strike("show")
        house.keep_reel("show", Reel(5))
        house.keep_reel("more", Reel(6))
        house.strike("show")
        house.keep_roll("show", "cut", Roll(example_plan(), ("b",)))
        self.assertEqual(list(house), ["tape", "cut", "more", "show"])
        self.assertEqual((house["show"].written, house.over("show"), house.deed_count), (("b",), "cut", 8))

    def test_while_names_are_told(self):
        house = example_house()
        told = []
        for name in house:
            told.append(name)
            if name == "tape":
                house.keep_reel("more", Reel(5))
        self.assertEqual(told, ["tape", "cut", "show"])


class EqualTest(Case):
    def test_copies_go_their_own_way(self):
        house = example_house()
        other = house.copy()
        self.assertIsNot(other, house)
        self.assertEqual(other, house)
        self.assertIs(other["cut"], house["cut"])
        other.strike("show")
        self.assertNotEqual(other, house)
        self.assertEqual((list(house), list(other)), (["tape", "cut", "show"], ["tape", "cut"]))
        house.keep_reel("more", Reel(5))
        self.assertEqual((house.deed_count, other.deed_count), (4, 4))
        self.assertNotEqual(other, house)
        self.assertIs("more" in other, False)

    def test_by_deeds(self):
        self.assertEqual(House(), House())
        self.assertEqual(example_house(), example_house())
        house = example_house()
        house.strike("show")
        house.keep_roll("show", "cut", Roll(example_plan(), ("a", (3, ("c", "a")), "b")))
        # The same things are kept, but they came by other deeds.
        self.assertNotEqual(house, example_house())
        left, right = House(), House()
        for house, names in ((left, "ab"), (right, "ba")):
            for name in names:
                house.keep_reel(name, Reel(5))
        self.assertNotEqual(left, right)
        left, right = House(), House()
        left.keep_reel("a", Reel(5))
        right.keep_reel("a", Reel(6))
        self.assertNotEqual(left, right)
        for thing in (None, 5, "x", (), Reel(5), example_plan()):
            self.assertIs(left == thing, False)

    def test_errors_change_nothing(self):
        house = example_house()
        for action in (
            lambda: house.keep_reel("tape", Reel(5)), lambda: house.keep_plan("new", "cut", example_plan()), lambda: house.strike("tape"),
            lambda: house.keep_plan("new", "tape", random_plans(1, 1)[0]), lambda: house.strike("new"),
        ):
            with self.assertRaises(CaptionError):
                action()
            self.assertEqual(house, example_house())
            self.assertEqual(list(house), ["tape", "cut", "show"])


class ManyDeedsTest(Case):
    def test_against_a_list_of_things(self):
        dice = random.Random(461)
        seen = set()
        plans = random_plans(461, 3, 2)
        for _ in range(60):
            house, slow = House(), SlowHouse()
            for _ in range(140):
                names = [left + right for left in "abcdefgh" for right in "abcdef"] + ["A", ""]
                name, of = dice.choice(names), dice.choice(slow.names() or ["a"])
                plan = dice.choice(plans)
                kind = dice.choice(("reel", "reel", "plan", "roll", "strike"))
                thing = {"reel": plan.reel, "plan": plan, "roll": Roll(plan, random_roll(dice, plan))}.get(kind)
                kinds = {"reel": house.keep_reel, "plan": house.keep_plan, "roll": house.keep_roll, "strike": house.strike}
                action = kinds[kind]
                arguments = {"reel": (name, thing), "strike": (name,)}.get(kind, (name, of, thing))
                if kind == "strike":
                    if dice.random() < 0.8:
                        continue
                    told = slow.strike(name)
                else:
                    told = slow.keep(kind, name, None if kind == "reel" else of, thing)
                seen.add(told)
                if told is None:
                    self.assertIsNone(action(*arguments))
                else:
                    self.assertRaises(told, action, *arguments)
                self.assertEqual((list(house), house.deed_count), (slow.names(), slow.deeds))
                for name, _, of, thing in slow.things:
                    self.assertIs(house[name], thing)
                    self.assertEqual(house.over(name), of)
                    self.assertIs(name in house, True)
        self.assertEqual(seen, {None, BadName, Twice, Unknown, Unlike, TooMany, InUse})
