"""[20]: whether nothing is ever missed."""

import random

from seamfast.errors import BadPace, BadRoom, TooMany
from seamfast.lags import lags
from seamfast.missed import NothingMissed, judge_lags
from seamfast.plans import Plan
from seamfast.reels import Reel
from seamfast.ways import row_sends, ways
from tests.samples import Case, example_plan, random_plans, rich_plans
from tests.test_lags import BAD_PACES, random_pace

BAD_ROOMS = (-1, 2001, True, False, None, "5", 5.0, (5,), 10 ** 39)


def gone_through(plan, pace, full, name, lag):
    """Whether something is missed in a piece from a lag, grain by grain, and the lag at its end."""
    missed = False
    sends = {moment: cue for cue, moment in plan.sends_of(name)}
    for grain in range(plan.shown_of(name)):
        if grain in sends:
            lag += len(plan.reel[sends[grain]][3]) * pace[1] * plan.grain
            missed = missed or lag > full
        lag = max(0, lag - pace[0])
    return missed, lag


def slowly_judged(plan, pace, room, table):
    """What judge_lags tells of a tuple of rows, in the words of [20]."""
    full = room * pace[1] * plan.grain

    def formed(row):
        return isinstance(row, tuple) and len(row) == 2 and row[0] in plan.names and type(row[1]) is int and row[1] >= 0

    def keeps(name, lag):
        missed, end = gone_through(plan, pace, full, name, lag)
        return not missed and end <= [row[1] for row in table if formed(row) and row[0] == name][0]

    if not all([any([formed(row) and row[0] == name for row in table]) for name in plan.names]):
        return -1
    if not all([keeps(name, 0) for name in plan.starts]):
        return -1
    for number, row in enumerate(table):
        if not formed(row) or not all([keeps(name, row[1]) for name in plan.followers(row[0])]):
            return number
    return None


class VerdictTest(Case):
    def test_kept(self):
        verdict = NothingMissed(example_plan(), (2, 1), 14)
        self.assertIs(bool(verdict), True)
        self.assertEqual((verdict.way, verdict.table), (None, (("a", 8), ("b", 4), ("c", 4))))
        self.assertEqual((len(verdict), tuple(verdict)), (3, verdict.table))
        self.assertEqual(NothingMissed(example_plan(), [2, 1], 14).table, verdict.table)

    def test_just_as_great_as_the_room_and_one_more(self):
        # In a, c, a the lag is 28 points, or 14 signs, behind the first send of the last piece.
        verdict = NothingMissed(example_plan(), (2, 1), 13)
        self.assertIs(bool(verdict), False)
        self.assertEqual((verdict.way, verdict.table, len(verdict), list(verdict)), (("a", "c", "a"), None, 0, []))
        # At 23 / 12 it is 28 * 12 + 4 points behind the same send, which 14 signs do not hold.
        self.assertEqual(NothingMissed(example_plan(), (23, 12), 14).way, ("a", "c", "a"))
        self.assertIs(bool(NothingMissed(example_plan(), (23, 12), 15)), True)

    def test_room_zero(self):
        self.assertEqual(NothingMissed(example_plan(), (60, 1), 0).way, ("a",))
        plan = Plan(Reel(20, ((0, 8, "a", "x"),)), (("a", 2, 9, 1, 1, "on"),), (("a", "a"),), ("a",), ("a",))
        self.assertEqual(NothingMissed(plan, (0, 1), 0).table, (("a", 0),))

    def test_the_first_of_several_ways(self):
        reel = Reel(20, ((0, 4, "ann", "x" * 10), (5, 9, "ann", "x" * 9)))
        pieces = [("c", 0, 1, 1, 1, "on"), ("b", 5, 6, 1, 1, "on"), ("a", 10, 11, 1, 1, "on")]
        arrows = (("c", "c"), ("c", "b"), ("b", "b"), ("b", "a"), ("a", "b"), ("a", "c"))
        plan = Plan(reel, pieces, arrows, ("c", "b", "a"), ("c", "b", "a"))
        self.assertEqual(NothingMissed(plan, (1, 1), 9).way, ("c",))
        # 9 signs, less one, and 9; or 10, less one, and 9.
        self.assertEqual(NothingMissed(plan, (1, 1), 16).way, ("b", "b"))
        self.assertEqual(NothingMissed(plan, (1, 1), 17).way, ("c", "b"))
        self.assertEqual(NothingMissed(plan, (1, 1), 18).way, ("c", "c"))
        self.assertEqual(NothingMissed(plan, (1, 1), 19).way, ("b", "b", "b"))

    def test_rings_that_gain(self):
        reel = Reel(20, ((0, 2, "ann", "four"),))
        pieces = [("a", 0, 4, 1, 1, "on"), ("b", 5, 8, 1, 1, "on")]
        plan = Plan(reel, pieces, (("a", "a"), ("a", "b"), ("b", "b"), ("b", "a")), ("b",), ("b",))
        # At 999 / 1000 the lag grows by 4 points in a.
        self.assertEqual(NothingMissed(plan, (1, 1), 4).table, (("a", 0), ("b", 0)))
        self.assertEqual(NothingMissed(plan, (999, 1000), 4).way, ("b", "a", "a"))
        self.assertEqual(NothingMissed(plan, (999, 1000), 5).way, ("b",) + ("a",) * 252)
        self.assertEqual(NothingMissed(plan, (999, 1000), 10).way, ("b",) + ("a",) * 1502)

    def test_against_ways_one_by_one(self):
        dice = random.Random(73)
        seen = [0, 0, 0]
        for plan in random_plans(73, 200, 3) + rich_plans(74, 300, 3):
            pace = random_pace(dice)
            room = dice.choice((0, 3, 8, 12, 16, 20, 30, 40, 60, 100))
            verdict = NothingMissed(plan, pace, room)
            full = room * pace[1] * plan.grain
            most = 2 * len(plan) + 1
            told = [(way, lags(plan, way, pace)) for way in ways(plan, most)]
            missed = [way for way, row in told if row[:-1] and max(row[:-1]) > full]
            if verdict:
                seen[0] += 1
                self.assertEqual(missed, [])
                self.assertEqual(verdict.table, tuple(
                    (name, max(row[-1] for way, row in told if way[-1] == name)) for name in plan.names
                ))
                self.assertIsNone(judge_lags(plan, pace, room, verdict.table))
            elif len(verdict.way) <= most:
                seen[1] += 1
                self.assertEqual(verdict.way, missed[0])
                self.assertGreater(len(row_sends(plan, verdict.way[-1:])), 0)
            else:
                seen[2] += 1
                self.assertEqual(missed, [])
                self.assertGreater(max(lags(plan, verdict.way, pace)[:-1]), full)
                self.assertLessEqual(max(lags(plan, verdict.way[:-1], pace)[:-1]), full)
        self.assertGreater(min(seen), 5)

    def test_errors(self):
        plan = example_plan()
        for pace in BAD_PACES:
            self.fails(BadPace, (pace,), NothingMissed, plan, pace, -1)
            self.fails(BadPace, (pace,), judge_lags, plan, pace, -1, None)
        for room in BAD_ROOMS:
            self.fails(BadRoom, (room,), NothingMissed, plan, (1, 10000), room)
            self.fails(BadRoom, (room,), judge_lags, plan, (1, 10000), room, None)

    def test_as_many_points_as_are_let(self):
        plan = example_plan()
        self.assertIs(bool(NothingMissed(plan, (11, 5), 1000)), True)
        self.fails(TooMany, "point", NothingMissed, plan, (11, 5), 1001)
        self.assertIs(bool(NothingMissed(plan, (2000, 1001), 4)), False)
        self.fails(TooMany, "point", NothingMissed, plan, (2000, 1001), 5)
        self.assertIs(bool(NothingMissed(plan, (2, 1), 2000)), True)
        whole = Plan(plan.reel, plan.pieces[:1], (), ("a",), ("a",))
        # The grain is 1: 137 * 73 are 10,001 points, 136 * 73 are 9,928.
        self.fails(TooMany, "point", NothingMissed, whole, (1, 137), 73)
        self.assertEqual(NothingMissed(whole, (1, 136), 73).table, (("a", 22 * 136 - 10),))
        self.assertIs(bool(NothingMissed(plan, (10 ** 39, 10 ** 39 + 1), 0)), False)
        self.assertEqual(judge_lags(plan, (2000, 1001), 2000, ()), -1)
        self.assertIsNone(judge_lags(plan, (2000, 1001), 2000, (("a", 40000), ("b", 40000), ("c", 30000))))


class JudgeTest(Case):
    PACE = (2, 1)
    TABLE = (("a", 8), ("b", 4), ("c", 4))

    def judged(self, table, room=14):
        return judge_lags(example_plan(), self.PACE, room, table)

    def test_the_table_told(self):
        self.assertIsNone(self.judged(self.TABLE))
        table = [list(row) for row in self.TABLE]
        self.assertIsNone(self.judged(table))
        self.assertEqual(table, [["a", 8], ["b", 4], ["c", 4]])
        self.assertIsNone(self.judged(self.TABLE[::-1]))
        self.assertIsNone(self.judged(self.TABLE + self.TABLE))

    def test_each_number_greater_or_less(self):
        # A greater lag at the end of c is too much for a in 14 signs, but not in 15.
        self.assertEqual(self.judged((("a", 8), ("b", 4), ("c", 5))), 2)
        self.assertIsNone(self.judged((("a", 8), ("b", 4), ("c", 4)), 15))
        self.assertEqual(self.judged((("a", 8), ("b", 4), ("c", 5)), 15), 2)
        self.assertIsNone(self.judged((("a", 9), ("b", 5), ("c", 5)), 15))
        self.assertEqual(self.judged((("a", 8), ("b", 4), ("c", 3))), 0)
        self.assertEqual(self.judged((("a", 9), ("b", 4), ("c", 4))), 0)
        self.assertIsNone(self.judged((("a", 9), ("b", 5), ("c", 4))))
        self.assertEqual(self.judged((("a", 7), ("b", 4), ("c", 4))), 2)
        self.assertEqual(self.judged((("a", 8), ("b", 5), ("c", 4))), None)
        self.assertEqual(self.judged((("a", 8), ("b", 3), ("c", 4))), 0)
        # From the lag 0 the end of a has a lag of 4.
        self.assertEqual(self.judged((("a", 3), ("b", 4), ("c", 4))), -1)

    def test_rows_left_out_and_doubled(self):
        for number in range(3):
            self.assertEqual(self.judged(self.TABLE[:number] + self.TABLE[number + 1:]), -1)
        for table in ((), None, 5, "abc", {}, True, {"a": 8, "b": 4, "c": 4}):
            self.assertEqual(self.judged(table), -1)
        # The first row of a piece tells its lag; each row is judged by itself.
        self.assertIsNone(self.judged(self.TABLE + (("c", 0), ("b", 99))))
        self.assertEqual(self.judged((("c", 0),) + self.TABLE), 1)
        self.assertEqual(self.judged(self.TABLE + (("b", 0), ("c", 5))), 4)
        self.assertEqual(self.judged((("a", 3),) + self.TABLE), -1)

    def test_rows_without_the_form(self):
        for row in (
            None, 5, "a8", (), ("a",), ("a", 8, 8), ("d", 8), ("", 8), (None, 8), (["a"], 8), (("a",), 8), ("a", -1),
            ("a", True), ("a", False), ("a", None), ("a", "8"), ("a", 8.0), ("a", (8,)), {}, {"a": 8, "b": 9}, (8, "a"),
        ):
            self.assertEqual(self.judged(self.TABLE + (row,)), 3)
            self.assertEqual(self.judged((row,) + self.TABLE), 0)
            self.assertEqual(self.judged((row,) + self.TABLE[1:]), -1)

    def test_lags_beyond_the_room(self):
        # Nothing is missed where nothing is sent, whatever the lag.
        reel = Reel(20, ((0, 4, "ann", "four"),))
        pieces = (("a", 0, 4, 1, 1, "on"), ("b", 5, 6, 1, 1, "on"), ("c", 6, 8, 1, 1, "on"))
        plan = Plan(reel, pieces, (("a", "b"), ("b", "c"), ("c", "b")), ("a",), ("a", "b", "c"))
        self.assertIsNone(judge_lags(plan, (1, 1), 4, (("a", 0), ("b", 99), ("c", 98))))
        self.assertEqual(judge_lags(plan, (1, 1), 4, (("a", 0), ("b", 99), ("c", 96))), 1)
        self.assertIsNone(judge_lags(plan, (1, 1), 4, (("a", 10 ** 39), ("b", 10 ** 39), ("c", 10 ** 39))))
        plan = Plan(reel, pieces, (("a", "b"), ("b", "c"), ("c", "a")), ("a",), ("a", "b", "c"))
        self.assertEqual(judge_lags(plan, (1, 1), 4, (("a", 0), ("b", 0), ("c", 1))), 2)
        self.assertEqual(judge_lags(plan, (1, 1), 4, (("a", 0), ("b", 3), ("c", 0))), 1)
        self.assertEqual(judge_lags(plan, (1, 1), 3, (("a", 0), ("b", 0), ("c", 0))), -1)

    def test_against_the_words(self):
        dice = random.Random(75)
        seen = set()
        for plan in random_plans(75, 100, 3) + rich_plans(76, 150, 3):
            pace = random_pace(dice)
            room = dice.choice((12, 20, 40, 60))
            table = NothingMissed(plan, pace, room).table or tuple((name, dice.randint(0, 9)) for name in plan.names)
            for _ in range(6):
                rows = [(name, max(0, lag + dice.choice((0, 0, 0, 1, -1, 3)))) for name, lag in table]
                rows = rows + [(dice.choice(plan.names), dice.randint(0, 50)) for _ in range(dice.randint(0, 2))]
                rows = rows + [None] * dice.choice((0, 0, 0, 1))
                dice.shuffle(rows)
                rows = tuple(rows[dice.choice((0, 0, 0, 1)):])
                told = judge_lags(plan, pace, room, rows)
                self.assertEqual(told, slowly_judged(plan, pace, room, rows))
                seen.add(told if told in (None, -1) else 0)
        self.assertEqual(seen, {None, -1, 0})
