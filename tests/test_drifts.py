"""[40]: the drift of two rooms."""

import random

from seamfast.drifts import Drift, judge_drifts
from seamfast.errors import BadArrow, BadNumber, BadRate, BadRow
from seamfast.plans import Plan
from seamfast.reels import Reel
from seamfast.ways import ways
from tests.samples import Case, example_plan, random_plans, random_row, rich_plans, turned
from tests.test_greatest import all_rings

RATES = ((1, 1), (1, 2), (1, 1))
EASY = ((1, 1), (1, 1), (1, 2), (2, 1), (3, 2), (2, 3), (6, 5), (1, 6))


def ticks(plan, rates, name):
    """How many sixtieths of a tick a piece takes in both rooms."""
    _, start, end, above, below, _ = plan.piece_of(name)
    other, under = rates[plan.names.index(name)]
    return (end - start) * above * (60 // below), (end - start) * other * (60 // under)


def seen_drift(plan, rates, meets, row, parts):
    """The drift at the end of a row, in parts, by the clocks of both rooms."""
    clocks = [0, 0]
    for number, name in enumerate(row):
        if number > 0 and (row[number - 1], name) in meets:
            clocks = [max(clocks)] * 2
        first, second = ticks(plan, rates, name)
        clocks = [clocks[0] + first, clocks[1] + second]
    return (clocks[1] - clocks[0]) * parts // 60


def least_parts(plan, rates):
    """How many parts a tick has."""
    belows = [plan.grain] + [below for _, below in rates]
    return next(parts for parts in range(1, 61) if all(parts % below == 0 for below in belows))


def random_rates(dice, plan):
    """Rates, many of which are those of the plan itself."""
    return tuple(piece[3:5] if dice.random() < 0.5 else dice.choice(EASY) for piece in plan.pieces)


def random_meets(dice, plan):
    """Some arrows."""
    share = dice.choice((0, 0.2, 0.5, 1))
    return tuple(arrow for arrow in plan.arrows if dice.random() < share)


def slowly_judged(plan, rates, meets, table):
    """What judge_drifts tells of a tuple, in the words of [40]."""
    parts = least_parts(plan, rates)
    drifts = {name: seen_drift(plan, rates, (), (name,), parts) for name in plan.names}

    def whole(thing):
        return isinstance(thing, int) and not isinstance(thing, bool)

    def formed(row):
        return isinstance(row, tuple) and len(row) == 3 and row[0] in plan.names and whole(row[1]) and whole(row[2])

    def lies(name, drift):
        _, low, high = [row for row in table if formed(row) and row[0] == name][0]
        return low <= drift <= high

    if not all(any(formed(row) and row[0] == name for row in table) for name in plan.names):
        return -1
    if not all(lies(name, drifts[name]) for name in plan.starts):
        return -1
    for number, row in enumerate(table):
        if not formed(row):
            return number
        for name in plan.followers(row[0]):
            begun = (0,) if (row[0], name) in meets else row[1:]
            if not all(lies(name, drift + drifts[name]) for drift in begun):
                return number
    return None


def line_plan(names="abcd", arrows=None, starts="a", ends=None):
    """A plan of pieces of ten ticks each."""
    pieces = [(name, 0, 10, 1, 1, "on") for name in names]
    arrows = list(zip(names, names[1:])) if arrows is None else arrows
    return Plan(Reel(10), pieces, arrows, tuple(starts), tuple(ends or names[-1]))


class ArgumentsTest(Case):
    def both(self, error, told, plan, rates, meets=()):
        self.fails(error, told, Drift, plan, rates, meets)
        self.fails(error, told, judge_drifts, plan, rates, meets, None)

    def test_rates(self):
        plan = example_plan()
        for rates in ((), RATES[:2], RATES + ((1, 1),), None, 5, "abc", True, {}, (None,) * 4):
            self.both(BadRate, -1, plan, rates)
        bad = (
            None, 5, "11", (), (1,), (1, 1, 1), (0, 1), (7, 1), (1, 0), (1, 7), (-1, 1), (2, 4), (6, 3), (True, 1), (1, True),
            ("1", 1), (1.0, 1), (1, None), {}, (6, 6),
        )
        for rate in bad:
            self.both(BadRate, 1, plan, ((1, 1), rate, (1, 1)))
            self.both(BadRate, 1, plan, [(1, 1), rate, None], None)
        for rate in ((1, 6), (6, 1), [5, 6], (1, 1)):
            self.assertEqual(Drift(plan, [rate, [1, 1], [6, 5]]).rates, (tuple(rate), (1, 1), (6, 5)))

    def test_meets(self):
        plan = example_plan()
        for meets in (None, 5, "ab", True, {}):
            self.both(BadArrow, -1, plan, RATES, meets)
        for arrow in (None, 5, "ab", (), ("a",), ("a", "b", "c"), ("b", "a"), ("a", "a"), ("a", "d"), ("a", None), (("a",), "b")):
            self.both(BadArrow, 1, plan, RATES, (("a", "c"), arrow, None))
        self.both(BadArrow, 2, plan, RATES, (("a", "b"), ("a", "c"), ["a", "b"]))
        self.both(BadRate, 0, plan, (None,) + RATES[1:], None)
        self.assertEqual(Drift(plan, RATES, [["a", "c"], ["a", "b"]]).meets, (("a", "c"), ("a", "b")))
        self.assertEqual(Drift(plan, RATES, meets=()).meets, ())

    def test_limits(self):
        drift = Drift(example_plan(), RATES)
        for limit in (-1, 501, True, False, None, "5", 5.0, (5,), 10 ** 39):
            self.fails(BadNumber, "limit", drift.beyond, limit)
        self.assertIsNone(drift.beyond(0))
        self.assertIsNone(drift.beyond(500))

    def test_rows(self):
        drift = Drift(example_plan(), RATES)
        for row, told in (((), -1), (None, -1), (("a", "d"), 1), ((None,), 0), ("abc", -1), (("a",) * 401, -1)):
            self.fails(BadRow, told, drift.drift_of, row)


class DriftTest(Case):
    def test_the_plans_own_rates(self):
        plan = example_plan()
        drift = Drift(plan, RATES)
        self.assertIs(bool(drift), True)
        self.assertEqual(drift.table, (("a", 0, 0), ("b", 0, 0), ("c", 0, 0)))
        self.assertEqual((drift.parts, drift.ring, drift.gain), (2, None, None))
        self.assertEqual((len(drift), list(drift)), (3, list(drift.table)))

    def test_a_ring(self):
        plan = example_plan()
        # In a the second room is 5 ticks behind, in c 4 ticks ahead.
        drift = Drift(plan, ((1, 2), (1, 2), (3, 2)))
        self.assertIs(bool(drift), False)
        self.assertEqual((drift.parts, drift.ring, drift.gain), (2, ("a", "c"), -2))
        self.assertEqual((drift.table, len(drift), list(drift)), (None, 0, []))
        self.assertEqual(drift.drift_of(("a", "c", "a", "b")), -12)
        self.assertEqual(drift.drift_of(["c", "c", "b"]), 16)
        self.assertEqual(drift.beyond(10), ("a", "c", "a"))
        self.assertEqual(drift.beyond(9), ("a",))
        self.assertEqual(drift.beyond(12), ("a", "c", "a", "c", "a"))

    def test_a_ring_that_a_meet_cuts(self):
        plan = example_plan()
        rates = ((1, 2), (1, 2), (3, 2))
        drift = Drift(plan, rates, (("a", "c"),))
        self.assertEqual(drift.table, (("a", -10, -2), ("b", -10, -2), ("c", 8, 8)))
        # Also at the arrow from its last piece to its first one.
        drift = Drift(plan, rates, (("c", "a"),))
        self.assertEqual(drift.table, (("a", -10, -10), ("b", -10, -10), ("c", -2, -2)))
        drift = Drift(plan, rates, (("c", "a"), ("a", "b"), ("a", "c")))
        self.assertEqual(drift.table, (("a", -10, -10), ("b", 0, 0), ("c", 8, 8)))
        drift = Drift(plan, rates, (("a", "b"),))
        self.assertEqual((drift.ring, drift.gain), (("a", "c"), -2))

    def test_parts(self):
        pieces = (("a", 0, 10, 1, 4, "on"), ("b", 0, 10, 5, 6, "on"))
        plan = Plan(Reel(10), pieces, (("a", "b"),), ("a",), ("b",))
        drift = Drift(plan, ((1, 6), (4, 5)))
        self.assertEqual((plan.grain, drift.parts), (12, 60))
        self.assertEqual(drift.table, (("a", -50, -50), ("b", -70, -70)))
        self.assertEqual(Drift(plan, ((1, 4), (1, 6))).parts, 12)
        self.assertEqual(Drift(plan, ((1, 5), (1, 5))).parts, 60)

    def test_ways_with_meets(self):
        plan = line_plan()
        rates = ((2, 1), (3, 1), (1, 2), (1, 1))
        row = ("a", "b", "c", "d")
        for meets, told in (
            ((), 25 * 2), ((("a", "b"),), 15 * 2), ((("c", "d"),), 0), ((("b", "c"),), -5 * 2), ((("a", "b"), ("b", "c")), -5 * 2),
            ((("a", "b"), ("c", "d")), 0),
        ):
            drift = Drift(plan, rates, meets)
            self.assertEqual(drift.drift_of(row), told)
            self.assertEqual(drift.table[-1], ("d", told, told))

    def test_rows_that_are_no_ways(self):
        plan = line_plan()
        drift = Drift(plan, ((2, 1), (3, 1), (1, 2), (1, 1)), (("b", "c"),))
        self.assertEqual(drift.drift_of(("c", "b")), 15 * 2)
        self.assertEqual(drift.drift_of(("b", "c")), -5 * 2)
        self.assertEqual(drift.drift_of(("b", "b", "a")), 50 * 2)
        self.assertEqual(drift.drift_of(("d", "b", "c", "b", "c", "a")), 5 * 2)

    def test_beyond(self):
        plan = line_plan()
        drift = Drift(plan, ((6, 1), (1, 6), (6, 1), (1, 1)))
        # The drifts are 50, 250 / 6 less, and so on, in sixths of a tick.
        self.assertEqual(drift.parts, 6)
        self.assertEqual(drift.table, (("a", 300, 300), ("b", 250, 250), ("c", 550, 550), ("d", 550, 550)))
        self.assertEqual(drift.beyond(299), ("a",))
        self.assertEqual(drift.beyond(300), ("a", "b", "c"))
        self.assertEqual(drift.beyond(500), ("a", "b", "c"))
        turned = Drift(plan, ((1, 6), (6, 1), (1, 6), (1, 1)), (("a", "b"), ("b", "c")))
        self.assertEqual([row[1] for row in turned.table], [-50, 300, -50, -50])
        self.assertEqual((turned.beyond(49), turned.beyond(50), turned.beyond(300)), (("a",), ("a", "b"), None))
        ring = Drift(line_plan("a", [("a", "a")]), ((6, 5),))
        self.assertEqual((ring.ring, ring.gain, ring.parts), (("a",), 10, 5))
        self.assertEqual(ring.beyond(500), ("a",) * 51)
        self.assertEqual(ring.beyond(0), ("a",))

    def test_the_least_of_several_rings(self):
        names = "abcd"
        arrows = [("a", "b"), ("b", "a"), ("b", "c"), ("c", "b"), ("c", "d"), ("d", "d"), ("d", "c")]
        plan = line_plan(names, arrows, "a", "d")
        self.assertEqual(Drift(plan, ((2, 1), (1, 1), (1, 2), (2, 1))).ring, ("d",))
        self.assertEqual(Drift(plan, ((2, 1), (1, 1), (1, 2), (1, 1))).ring, ("a", "b"))
        drift = Drift(plan, ((2, 1), (1, 1), (1, 2), (1, 1)), (("b", "a"), ("d", "d")))
        self.assertEqual((drift.ring, drift.gain), (("b", "c"), -5 * 2))
        drift = Drift(plan, ((2, 1), (1, 1), (1, 1), (1, 1)), (("b", "a"),))
        self.assertEqual((bool(drift), drift.table[3]), (True, ("d", 10, 10)))
        # A ring whose drift is 0 bounds it, two of them that are joined, too.
        even = Drift(plan, ((3, 2), (1, 2), (3, 2), (1, 1)), (("d", "c"),))
        self.assertEqual((even.ring, even.table), (None, (("a", 10, 10), ("b", 0, 0), ("c", 10, 10), ("d", 10, 10))))

    def test_against_all_ways(self):
        dice = random.Random(401)
        seen = {}
        for plan in turned(random_plans(401, 250, 3) + rich_plans(402, 250, 3)):
            rates, meets = random_rates(dice, plan), random_meets(dice, plan)
            drift = Drift(plan, rates, meets)
            parts = least_parts(plan, rates)
            self.assertEqual(drift.parts, parts)
            rings = [
                ring for ring in all_rings(plan, len(plan))
                if not any(pair in meets for pair in zip(ring, ring[1:] + ring[:1])) and seen_drift(plan, rates, (), ring, parts) != 0
            ]
            told = {}
            drifts = [(way, seen_drift(plan, rates, meets, way, parts)) for way in ways(plan, 6)]
            for way, one in drifts:
                told.setdefault(way[-1], []).append(one)
                self.assertEqual(drift.drift_of(way), one)
            if rings:
                self.assertIs(bool(drift), False)
                self.assertEqual(drift.ring, rings[0])
                self.assertEqual(drift.gain, seen_drift(plan, rates, (), rings[0], parts))
                self.assertIsNotNone(drift.beyond(500))
            else:
                self.assertEqual(drift.table, tuple((name, min(told[name]), max(told[name])) for name in plan.names))
                self.assertEqual((drift.ring, drift.gain), (None, None))
                self.assertIsNone(judge_drifts(plan, rates, meets, drift.table))
            for limit in (0, dice.randint(0, 40), dice.randint(0, 500)):
                found = [way for way, one in drifts if abs(one) > limit][:1]
                if found:
                    self.assertEqual(drift.beyond(limit), found[0])
                elif not rings:
                    self.assertIsNone(drift.beyond(limit))
                else:
                    self.assertGreater(len(drift.beyond(limit)), 6)
            row = random_row(dice, plan)
            self.assertEqual(drift.drift_of(row), seen_drift(plan, rates, meets, row, parts))
            seen[bool(rings), bool(meets)] = True
        self.assertEqual(len(seen), 4)


class JudgeTest(Case):
    RATES = ((1, 2), (1, 2), (3, 2))
    MEETS = (("a", "c"),)
    TABLE = (("a", -10, -2), ("b", -10, -2), ("c", 8, 8))

    def judged(self, table):
        return judge_drifts(example_plan(), self.RATES, self.MEETS, table)

    def test_the_table_itself(self):
        self.assertEqual(Drift(example_plan(), self.RATES, self.MEETS).table, self.TABLE)
        self.assertIsNone(self.judged(self.TABLE))
        self.assertIsNone(self.judged([list(row) for row in self.TABLE]))
        self.assertIsNone(self.judged(self.TABLE[::-1]))
        self.assertIsNone(self.judged(self.TABLE * 2))

    def test_low_and_high_changed(self):
        self.assertEqual(self.judged((("a", -9, -2),) + self.TABLE[1:]), -1)
        self.assertEqual(self.judged((("a", -10, -3),) + self.TABLE[1:]), 2)
        self.assertEqual(self.judged((("a", -11, -2),) + self.TABLE[1:]), 0)
        self.assertEqual(self.judged((("a", -10, -1),) + self.TABLE[1:]), 0)
        self.assertEqual(self.judged((self.TABLE[0], ("b", -9, -2), self.TABLE[2])), 0)
        self.assertEqual(self.judged((self.TABLE[0], ("b", -10, -3), self.TABLE[2])), 0)
        self.assertIsNone(self.judged((self.TABLE[0], ("b", -11, -1), self.TABLE[2])))
        self.assertEqual(self.judged(self.TABLE[:2] + (("c", 9, 9),)), 0)
        self.assertEqual(self.judged(self.TABLE[:2] + (("c", 8, 9),)), 2)
        wider = (("a", -100, -1), ("b", -500, 20), ("c", -90, 9))
        self.assertIsNone(self.judged(wider))
        # The least is greater than the greatest: nothing lies between them.
        self.assertEqual(self.judged((("a", -2, -10),) + self.TABLE[1:]), -1)
        self.assertEqual(self.judged((self.TABLE[0], ("b", -2, -10), self.TABLE[2])), 0)

    def test_rows_left_out_and_without_the_form(self):
        for number in range(3):
            self.assertEqual(self.judged(self.TABLE[:number] + self.TABLE[number + 1:]), -1)
        for table in ((), None, 5, "abc", {}, True):
            self.assertEqual(self.judged(table), -1)
        for row in (
            None, 5, "b", (), ("b",), ("b", -10), ("b", -10, -2, 0), ("d", -10, -2), (None, -10, -2), (["b"], -10, -2),
            ("b", None, -2), ("b", -10, None), ("b", -10, True), ("b", False, 5), ("b", -10.0, -2), ("b", "-10", -2), {},
        ):
            self.assertEqual(self.judged(self.TABLE + (row,)), 3, row)
            self.assertEqual(self.judged((row,) + self.TABLE), 0, row)
            self.assertEqual(self.judged((row, self.TABLE[0], self.TABLE[2])), -1, row)

    def test_the_first_row_tells(self):
        self.assertIsNone(self.judged(self.TABLE + (("b", 1000, 1000),)))
        self.assertEqual(self.judged((("b", 1000, 1000),) + self.TABLE), 1)
        self.assertEqual(self.judged(self.TABLE + (("a", -11, -2),)), 3)
        self.assertEqual(self.judged((("a", -3, -3),) + self.TABLE), -1)

    def test_no_table_where_the_drift_is_not_bounded(self):
        self.assertEqual(judge_drifts(example_plan(), self.RATES, (), (("a", -10 ** 30, 10 ** 30),) + (
            ("b", -10 ** 32, 10 ** 32), ("c", -10 ** 30 + 8, 10 ** 30 + 8))), 2)

    def test_against_the_words(self):
        dice = random.Random(403)
        seen = set()
        for plan in turned(random_plans(403, 200, 3) + rich_plans(404, 200, 3)):
            rates, meets = random_rates(dice, plan), random_meets(dice, plan)
            table = Drift(plan, rates, meets).table
            if table is None:
                table = tuple((name, dice.randint(-20, 0), dice.randint(0, 20)) for name in plan.names)
            for _ in range(4):
                rows = []
                for name, low, high in table:
                    rows.append((name, low + dice.choice((0, 0, 0, 0, -1, 1)), high + dice.choice((0, 0, 0, 0, 1, -1))))
                rows += [dice.choice(rows) for _ in range(dice.randint(0, 2))]
                if dice.random() < 0.1:
                    rows.pop()
                dice.shuffle(rows)
                told = judge_drifts(plan, rates, meets, tuple(rows))
                self.assertEqual(told, slowly_judged(plan, rates, meets, tuple(rows)))
                seen.add(told if told in (None, -1) else 0)
        self.assertEqual(seen, {None, -1, 0})
