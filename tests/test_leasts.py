"""[27]: the least foresight, purse and room."""

from seamfast.desks import Desk
from seamfast.errors import BadForesight, TooMany
from seamfast.foresight import Foresight
from seamfast.leasts import least_foresight, least_purse, least_room
from seamfast.plans import Plan
from seamfast.reels import Reel
from tests.samples import Case, example_plan, full_plan
from tests.test_desks import WORDINGS, example_desk
from tests.test_foresight import small_desks
from tests.test_windows import BAD_FORESIGHTS, silent_plan


def late_desk(steps, room=8):
    """A desk that must know so many pieces ahead whether the long text of z follows that of a."""
    names = "bcde"[:steps - 1]
    reel = Reel(40, ((0, 2, "ann", "x" * 8), (4, 5, "bob", "y" * 8)))
    pieces = [("a", 0, 3, 1, 1, "on"), ("z", 4, 6, 1, 1, "on"), ("y", 10, 20, 1, 1, "on")]
    pieces += [(name, 20 + at, 21 + at, 1, 6, "on") for at, name in enumerate(names)]
    row = "a" + names
    arrows = list(zip(row, row[1:])) + [(row[-1], "z"), (row[-1], "y"), ("y", "a")]
    plan = Plan(reel, pieces, arrows, ("a",), ("z",))
    return Desk(plan, (((8, 0), (3, 1)), ((8, 0),)), (1, 1), room, 1, 0)


class ForesightTest(Case):
    def test_each_foresight(self):
        for steps in (1, 2, 3, 4):
            self.assertEqual(least_foresight(late_desk(steps)), steps)
        self.assertIsNone(least_foresight(late_desk(5)))
        self.assertEqual(least_foresight(late_desk(5, room=16)), 0)
        self.assertEqual(least_foresight(Desk.plain(example_plan(), (2, 1), 14)), 0)
        self.assertIsNone(least_foresight(Desk.plain(example_plan(), (2, 1), 13)))

    def test_against_foresights(self):
        seen = set()
        for desk, _ in small_desks(141, 60):
            told = least_foresight(desk)
            kept = [many for many in range(5) if Foresight(desk, many)]
            self.assertEqual(told, kept[0] if kept else None)
            # Who knows more keeps whatever one who knows less keeps.
            self.assertEqual(kept, list(range(5))[5 - len(kept):])
            seen.add(told)
        self.assertLessEqual({None, 0}, seen)

    def test_windows_that_must_be_asked(self):
        plan = full_plan()
        # With foresight 0 the promise is kept: nobody asks for more.
        self.assertEqual(least_foresight(Desk.plain(plan, (60, 1), 100)), 0)
        self.fails(TooMany, "window", least_foresight, Desk.plain(plan, (1, 1), 0))
        names = "abcdef"
        arrows = [(left, right) for left in names for right in names]
        silent = silent_plan(6, arrows, ("a",), ("a",))
        self.assertEqual(least_foresight(Desk(silent, (), (1, 1), 0, 0, 0)), 0)


class PurseAndRoomTest(Case):
    def test_example(self):
        desk = example_desk(room=13, income=1)
        self.assertEqual([least_purse(desk, many) for many in (0, 1)], [1, 1])
        self.assertEqual([least_room(desk, many) for many in (0, 1)], [10, 10])
        self.assertEqual(least_room(Desk.plain(example_plan(), (2, 1), 0), 0), 14)
        self.assertEqual(least_purse(Desk.plain(example_plan(), (2, 1), 14), 0), 0)

    def test_none(self):
        desk = Desk.plain(example_plan(), (2, 1), 13)
        self.assertIsNone(least_purse(desk, 0))
        self.assertIsNone(least_purse(desk, 2))
        self.assertIsNone(least_room(Desk.plain(example_plan(), (1, 1), 50), 1))

    def test_bounds(self):
        reel = Reel(20, ((0, 2, "ann", "four"), (3, 4, "bob", "five5")))
        pieces = (("a", 0, 5, 1, 1, "on"),)
        plan = Plan(reel, pieces, (), ("a",), ("a",))
        # 60 and 40 signs are 100 if nothing is read meanwhile, but for the points of three ticks.
        desk = Desk(plan, (((60, 0),), ((43, 0), (42, 9))), (1, 1), 5, 9, 0)
        self.assertEqual(least_room(desk, 0), 99)
        self.assertEqual(least_room(desk.altered(new_most=8), 0), 100)
        more = Desk(plan, (((60, 0),), ((44, 0), (43, 9))), (1, 1), 5, 9, 0)
        self.assertEqual((least_room(more, 0), least_room(more.altered(new_most=8), 0)), (100, None))
        self.assertEqual(least_purse(desk.altered(new_room=99), 0), 9)
        self.assertEqual(least_purse(desk.altered(new_room=100), 0), 0)
        self.assertEqual(least_purse(desk.altered(new_room=98), 0), None)
        silent = silent_plan(1, (("a", "a"),), ("a",), ("a",))
        self.assertEqual(least_room(Desk(silent, (), (1, 1), 100, 0, 0), 4), 0)

    def test_against_all_numbers(self):
        seen = {"purse": 0, "room": 0, "none": 0}
        for desk, many in small_desks(142, 30):
            purses = [most for most in range(10) if Foresight(desk.altered(new_most=most), many)]
            self.assertEqual(least_purse(desk, many), min(purses, default=None))
            rooms = [room for room in range(0, 101, 1 if many == 0 else 3) if Foresight(desk.altered(new_room=room), many)]
            told = least_room(desk, many)
            if told is None:
                self.assertEqual(rooms, [])
            else:
                self.assertIs(bool(Foresight(desk.altered(new_room=told), many)), True)
                self.assertTrue(all(room >= told for room in rooms))
            seen["purse"] += bool(purses) and min(purses) > 0
            seen["room"] += bool(rooms)
            seen["none"] += not purses
        self.assertGreater(min(seen.values()), 2)

    def test_errors(self):
        desk = example_desk()
        wide = Desk(full_plan(), WORDINGS, (2, 1), 12, 3, 1)
        for many in BAD_FORESIGHTS:
            self.fails(BadForesight, (many,), least_purse, wide, many)
            self.fails(BadForesight, (many,), least_room, wide, many)
        self.fails(TooMany, "window", least_purse, wide, 2)
        self.fails(TooMany, "window", least_room, wide, 3)
        self.assertIs(desk == example_desk(), True)
