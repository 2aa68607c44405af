"""[33]: wishes."""

import random

from seamfast.allversions import AllVersions
from seamfast.books import Book
from seamfast.errors import BadMemory, BadPace, BadRoom, TooMany
from seamfast.known import Known
from seamfast.missed import NothingMissed
from seamfast.plans import Plan
from seamfast.reels import Reel
from seamfast.rules import Rules
from seamfast.wishes import BothWish, ClearWish, RoomWish, RulesWish
from tests.samples import Case, example_plan, random_plans, rich_plans
from tests.test_allversions import gentle_rules, quiet_plan
from tests.test_known import BAD_MEMORIES
from tests.test_lags import BAD_PACES, random_pace


class Asked:
    """A wish of the tests, which counts how often it is asked."""

    def __init__(self, answer):
        self.told = answer
        self.count = 0

    def __call__(self, plan):
        self.count += 1
        return self.told


def naming_plan():
    """A plan in which only one text of ann names its speaker."""
    reel = Reel(20, ((0, 4, "ann", "ann: good evening"), (6, 12, "bob", "bob : late"), (14, 20, "ann", "annie: so")))
    pieces = (("a", 0, 5, 1, 1, "on"), ("b", 13, 20, 1, 1, "on"), ("c", 5, 13, 1, 1, "on"))
    return Plan(reel, pieces, (("a", "b"), ("b", "b"), ("b", "c")), ("a",), ("b", "c"))


class RulesWishTest(Case):
    def test_example(self):
        plan = example_plan()
        self.assertIsNone(RulesWish(Book(1, 2), Rules(gap=2))(plan))
        self.assertEqual(RulesWish(Book(1, 2), Rules(gap=3))(plan), ("a", "b"))
        self.assertEqual(RulesWish(Book(0, 0), Rules(short=3))(plan), ("a", "c", "a", "b"))

    def test_attributes(self):
        book, rules = Book(1, 2), Rules(gap=3)
        wish = RulesWish(book, rules)
        self.assertIs(wish.book, book)
        self.assertIs(wish.rules, rules)

    def test_against_the_verdict(self):
        dice = random.Random(301)
        seen = set()
        for plan in random_plans(301, 150):
            book, rules = Book(dice.randint(0, 2), dice.randint(0, 3)), gentle_rules(dice)
            answer = RulesWish(book, rules)(plan)
            self.assertEqual(answer, AllVersions(plan, book, rules).version)
            seen.add(answer is None)
        self.assertEqual(seen, {True, False})

    def test_too_many(self):
        # Each standing counts the time since the cue, up to the horizon.
        self.fails(TooMany, "standing", RulesWish(Book(0, 0), Rules(gap=200)), quiet_plan(("a", "c")))
        self.assertIsNone(RulesWish(Book(0, 0), Rules())(quiet_plan(("a", "c"))))


class RoomWishTest(Case):
    def test_example(self):
        plan = example_plan()
        for pace, room in (((2, 1), 14), ((2, 1), 13), ((3, 1), 12), ((3, 1), 11), ((0, 1), 500)):
            answer = RoomWish(pace, room)(plan)
            self.assertEqual(answer, NothingMissed(plan, pace, room).way)
            self.assertEqual(answer is None, (pace, room) in (((2, 1), 14), ((3, 1), 12)))

    def test_bounds(self):
        for pace in BAD_PACES:
            self.fails(BadPace, (pace,), RoomWish, pace, 5)
            self.fails(BadPace, (pace,), RoomWish, pace, -1)
        for room in (-1, 2001, True, False, None, "1", 1.0, (1,)):
            self.fails(BadRoom, (room,), RoomWish, (1, 1), room)
        for room in (0, 2000):
            wish = RoomWish([1, 3], room)
            self.assertEqual((wish.pace, wish.room), ((1, 3), room))
        self.assertEqual(RoomWish((0, 1), 0).pace, (0, 1))

    def test_too_many(self):
        plan = example_plan()
        # A sign has two points.
        self.fails(TooMany, "point", RoomWish((1, 6), 834), plan)
        self.assertEqual(RoomWish((1, 6), 833)(plan), NothingMissed(plan, (1, 6), 833).way)

    def test_against_the_verdict(self):
        dice = random.Random(302)
        seen = set()
        for plan in rich_plans(302, 150):
            pace, room = random_pace(dice), dice.randint(0, 60)
            answer = RoomWish(pace, room)(plan)
            self.assertEqual(answer, NothingMissed(plan, pace, room).way)
            seen.add(answer is None)
        self.assertEqual(seen, {True, False})


class ClearWishTest(Case):
    def test_only_cues_that_name_their_speakers_by_their_texts(self):
        plan = naming_plan()
        self.assertEqual(plan.reel.naming, (0,))
        self.assertEqual(ClearWish(None)(plan), ("a", "b", "c"))
        self.assertEqual(ClearWish(1)(plan), ("a", "b", "b"))
        reel = Reel(20, plan.reel.cues[:1] + ((6, 12, "bob", "bob: late"),) + plan.reel.cues[2:])
        named = Plan(reel, plan.pieces, plan.arrows, plan.starts, plan.ends)
        self.assertIsNone(ClearWish(None)(named))
        self.assertEqual(ClearWish(2)(named), ("a", "b", "b", "b"))
        self.assertEqual(ClearWish(40)(named), ("a",) + ("b",) * 41)

    def test_bounds(self):
        for memory in BAD_MEMORIES:
            self.fails(BadMemory, (memory,), ClearWish, memory)
        for memory in (1, 40, None):
            self.assertEqual(ClearWish(memory).memory, memory)

    def test_against_the_verdict(self):
        dice = random.Random(303)
        seen = set()
        for plan in rich_plans(303, 200):
            cues = [
                cue[:3] + (f"{cue[2]}: {cue[3]}"[:60].strip() if dice.random() < 0.8 else cue[3],) for cue in plan.reel
            ]
            plan = Plan(Reel(plan.reel.length, cues), plan.pieces, plan.arrows, plan.starts, plan.ends)
            named = tuple(number for number, cue in enumerate(cues) if cue[3].startswith(cue[2] + ":"))
            memory = dice.choice((None, None, 1, 3, 10))
            answer = ClearWish(memory)(plan)
            self.assertEqual(answer, Known(plan, named, memory).way)
            seen.add(answer is None)
        self.assertEqual(seen, {True, False})


class BothWishTest(Case):
    def test_the_first_goes_ahead(self):
        plan = example_plan()
        first, second = RulesWish(Book(1, 2), Rules(gap=3)), RoomWish((3, 1), 11)
        both = first + second
        self.assertIsInstance(both, BothWish)
        self.assertIs(both.first, first)
        self.assertIs(both.second, second)
        self.assertEqual(both(plan), ("a", "b"))
        self.assertEqual((second + first)(plan), ("a",))
        self.assertEqual((RoomWish((3, 1), 12) + first)(plan), ("a", "b"))
        self.assertIsNone((RoomWish((3, 1), 12) + RulesWish(Book(1, 2), Rules(gap=2)))(plan))

    def test_the_second_is_asked_only_then(self):
        plan = example_plan()
        for answer, many in ((("a",), 0), (None, 1)):
            second = Asked(("b",))
            self.assertEqual(BothWish(Asked(answer), second)(plan), answer or ("b",))
            self.assertEqual(second.count, many)

    def test_errors_of_the_second(self):
        plan = example_plan()
        bad = RoomWish((1, 6), 2000)
        self.assertEqual((RoomWish((3, 1), 11) + bad)(plan), ("a",))
        self.fails(TooMany, "point", RoomWish((3, 1), 12) + bad, plan)
        self.fails(TooMany, "point", bad + RoomWish((3, 1), 11), plan)

    def test_joined_of_joined_ones(self):
        plan = example_plan()
        kept, broken, late = RoomWish((3, 1), 12), RoomWish((3, 1), 11), RulesWish(Book(0, 0), Rules(short=3))
        for wish, answer in (
            ((kept + kept) + broken, ("a",)), (kept + (kept + broken), ("a",)), ((kept + late) + broken, late(plan)),
            ((broken + late) + kept, ("a",)), (kept + (late + broken), late(plan)), ((kept + kept) + (kept + kept), None),
        ):
            self.assertEqual(wish(plan), answer)
        wish = kept
        for _ in range(100):
            wish = wish + kept
        self.assertEqual((wish + broken)(plan), ("a",))


class EqualTest(Case):
    def test_equal(self):
        self.assertEqual(RulesWish(Book(1, 2), Rules(gap=3)), RulesWish(Book(1, 2), Rules(gap=3)))
        self.assertNotEqual(RulesWish(Book(1, 2), Rules(gap=3)), RulesWish(Book(1, 2), Rules(gap=2)))
        self.assertNotEqual(RulesWish(Book(1, 2), Rules(gap=3)), RulesWish(Book(1, 3), Rules(gap=3)))
        self.assertEqual(RoomWish((1, 2), 3), RoomWish([1, 2], 3))
        self.assertNotEqual(RoomWish((1, 2), 3), RoomWish((1, 2), 4))
        self.assertNotEqual(RoomWish((1, 2), 3), RoomWish((1, 3), 3))
        self.assertEqual(ClearWish(None), ClearWish(None))
        self.assertNotEqual(ClearWish(None), ClearWish(1))

    def test_joined(self):
        def made(*numbers):
            return [ClearWish(number) for number in numbers]

        one, two, three = made(1, 2, 3)
        self.assertEqual(one + two, BothWish(*made(1, 2)))
        self.assertNotEqual(one + two, two + one)
        self.assertNotEqual(one + two, one + three)
        self.assertNotEqual(one + two, three + two)
        self.assertNotEqual((one + two) + three, one + (two + three))
        self.assertEqual((one + two) + three, BothWish(BothWish(*made(1, 2)), ClearWish(3)))

    def test_things_of_other_kinds(self):
        wishes = [RulesWish(Book(1, 2), Rules()), RoomWish((1, 2), 3), ClearWish(5), ClearWish(5) + ClearWish(5)]
        for number, wish in enumerate(wishes):
            for other in wishes[:number] + wishes[number + 1:] + [None, 5, "x", (), example_plan(), Book(1, 2)]:
                self.assertIs(wish == other, False)
                self.assertIs(wish != other, True)
