"""[39]: units, standings of moments, lengths."""

import random

from seamfast.errors import BadLength, TooMany
from seamfast.lengths import Lengths, judge_lengths
from seamfast.plans import Plan
from seamfast.reels import Reel
from seamfast.ways import row_length, versions
from tests.samples import Case, example_plan, full_plan, random_plans, rich_plans, turned


def timed_plan(lengths, arrows, starts, ends):
    """A plan of pieces of so many ticks, without cues."""
    pieces = [(name, 0, length, 1, 1, "on") for name, length in zip("abcdefghijkl", lengths)]
    return Plan(Reel(2000), pieces, arrows, tuple(starts), tuple(ends))


def gcd_of(plan):
    """The greatest number of grains that divides all shown lengths."""
    shown = [plan.shown_of(name) for name in plan.names]
    return max(unit for unit in range(1, min(shown) + 1) if all(length % unit == 0 for length in shown))


def seen_standings(plan, many):
    """The standings of the moments 0 to so many units, by laying out all ways."""
    unit = gcd_of(plan)
    ways = [((name,), 0) for name in plan.starts]
    opens = [set() for _ in range(many + 1)]
    ended = [False] * (many + 1)
    known = set()
    for way, begun in ways:
        name = way[-1]
        # Ways to the same piece that begins at the same moment go on alike.
        if (name, begun) in known:
            continue
        known.add((name, begun))
        size = plan.shown_of(name) // unit
        for elapsed in range(size):
            if begun + elapsed <= many:
                opens[begun + elapsed].add((name, elapsed))
        if begun + size <= many:
            ended[begun + size] = ended[begun + size] or name in plan.ends
            ways.extend((way + (other,), begun + size) for other in plan.followers(name))
    return [(tuple(sorted(told)), over) for told, over in zip(opens, ended)]


def all_versions(plan, most):
    """All versions of at most so many grains, in their order."""
    ways = [(name,) for name in sorted(plan.starts)]
    found = []
    while ways:
        ways = [way for way in ways if row_length(plan, way) <= most]
        found.extend(way for way in ways if way[-1] in plan.ends)
        ways = [way + (name,) for way in ways for name in plan.followers(way[-1])]
    return found


def slowly_judged(plan, lag, table):
    """What judge_lengths tells of a tuple, in the words of [39]."""
    unit = gcd_of(plan)
    units = {name: plan.shown_of(name) // unit for name in plan.names}

    def whole(thing):
        return isinstance(thing, int) and not isinstance(thing, bool)

    def formed(row):
        if not isinstance(row, tuple) or len(row) != 2 or row[1] not in (True, False) or not isinstance(row[1], bool):
            return False
        if not isinstance(row[0], tuple):
            return False
        for pair in row[0]:
            if not isinstance(pair, tuple) or len(pair) != 2 or not isinstance(pair[0], str) or pair[0] not in units:
                return False
            if not whole(pair[1]) or not 0 <= pair[1] < units[pair[0]]:
                return False
        return all(one < other for one, other in zip(row[0], row[0][1:]))

    def behind(row):
        opens, over = set(), False
        for name, elapsed in row[0]:
            if elapsed + 1 < units[name]:
                opens.add((name, elapsed + 1))
            else:
                over = over or name in plan.ends
                opens |= {(other, 0) for other in plan.followers(name)}
        return tuple(sorted(opens)), over

    if not isinstance(table, tuple) or not table or not formed(table[0]):
        return -1
    if table[0] != (tuple(sorted((name, 0) for name in plan.starts)), False) or not whole(lag) or not 0 <= lag < len(table):
        return -1
    for number, row in enumerate(table):
        follower = table[number + 1] if number + 1 < len(table) else table[lag]
        if not formed(row) or not formed(follower) or behind(row) != follower:
            return number
    return None


class TableTest(Case):
    def test_example(self):
        lengths = Lengths(example_plan())
        # The shown lengths are 20, 10 and 16 grains; a and c take 18 units.
        self.assertEqual((lengths.unit, lengths.lag, lengths.period), (2, 0, 18))
        self.assertEqual(lengths.table[:2], (((("a", 0),), False), ((("a", 1),), False)))
        self.assertEqual(lengths.table[10], ((("b", 0), ("c", 0)), False))
        self.assertEqual(lengths.table[15], ((("c", 5),), True))
        self.assertEqual((len(lengths), tuple(lengths)), (18, lengths.table))
        self.assertIs(30 in lengths, True)
        self.assertIs(66 in lengths, True)
        self.assertIs(32 in lengths, False)

    def test_units_with_rates_that_are_no_whole_numbers(self):
        reel = Reel(100)
        pieces = (("a", 0, 10, 3, 2, "on"), ("b", 0, 6, 5, 3, "back"), ("c", 0, 4, 1, 4, "on"))
        plan = Plan(reel, pieces, (("a", "b"), ("b", "c")), ("a",), ("c",))
        # A tick has 12 grains; the pieces take 180, 120 and 12 grains.
        self.assertEqual((plan.grain, Lengths(plan).unit), (12, 12))
        self.assertIs(312 in Lengths(plan), True)
        pieces = (("a", 0, 10, 3, 2, "on"), ("b", 0, 5, 5, 2, "on"))
        plan = Plan(reel, pieces, (("a", "b"),), ("a",), ("b",))
        self.assertEqual((plan.grain, Lengths(plan).unit), (2, 5))

    def test_without_a_ring(self):
        plan = timed_plan((2, 3), (("a", "b"),), "a", "ab")
        lengths = Lengths(plan)
        self.assertEqual(lengths.table, (
            ((("a", 0),), False), ((("a", 1),), False), ((("b", 0),), True), ((("b", 1),), False), ((("b", 2),), False),
            ((), True), ((), False),
        ))
        self.assertEqual((lengths.lag, lengths.period), (6, 1))
        self.assertEqual([length for length in range(20) if length in lengths], [2, 5])
        self.assertIs(10 ** 39 in lengths, False)

    def test_the_lag(self):
        # What is open comes again at once, but a version has ended then.
        lengths = Lengths(timed_plan((2,), (("a", "a"),), "a", "a"))
        self.assertEqual((lengths.lag, lengths.period), (1, 1))
        self.assertEqual(lengths.table, (((("a", 0),), False), ((("a", 0),), True)))
        lengths = Lengths(timed_plan((1, 1), (("a", "a"), ("a", "b")), "a", "b"))
        self.assertEqual((lengths.lag, lengths.period), (2, 1))

    def test_rings_of_different_lengths(self):
        plan = timed_plan((4, 6, 9), (("a", "a"), ("a", "b"), ("b", "a"), ("b", "c"), ("c", "b")), "a", "a")
        lengths = Lengths(plan)
        standings = seen_standings(plan, lengths.lag + 3 * lengths.period)
        self.assertEqual(standings[:len(lengths)], list(lengths.table))
        self.assertIs(10 ** 39 in lengths, True)
        plan = timed_plan((4, 6, 2), (("a", "b"), ("b", "a"), ("a", "c"), ("c", "a")), "a", "a")
        lengths = Lengths(plan)
        # Versions are 2 units long, and so many times 5 or 3 more.
        for length in range(0, 200):
            self.assertIs(length in lengths, any(4 + 10 * k + 6 * m == length for k in range(20) for m in range(34)))

    def test_just_the_least(self):
        for plan in turned(random_plans(391, 150, 3) + rich_plans(392, 100, 3)):
            try:
                lengths = Lengths(plan)
            except TooMany:
                continue
            if len(lengths) > 40:
                continue
            standings = seen_standings(plan, 2 * len(lengths))
            for lag in range(lengths.lag + 1):
                for period in range(1, lengths.period + 1):
                    last = 2 * len(lengths) - period
                    same = all(standings[k] == standings[k + period] for k in range(lag, last + 1))
                    self.assertIs(same, (lag, period) == (lengths.lag, lengths.period))

    def test_how_many(self):
        # The beginning of the ring comes again with an end, so there is one moment more.
        self.fails(TooMany, "moment", Lengths, timed_plan((1, 399), (("a", "b"), ("b", "a")), "a", "b"))
        lengths = Lengths(timed_plan((1, 398), (("a", "b"), ("b", "a")), "a", "b"))
        self.assertEqual((len(lengths), lengths.lag, lengths.period), (400, 1, 399))
        lengths = Lengths(timed_plan((1, 399), (("a", "b"), ("b", "a")), "a", "a"))
        self.assertEqual((len(lengths), lengths.lag, lengths.period), (400, 0, 400))
        self.fails(TooMany, "moment", Lengths, timed_plan((1, 400), (("a", "b"), ("b", "a")), "a", "a"))
        self.fails(TooMany, "moment", Lengths, timed_plan((1, 2000), (("a", "b"),), "a", "b"))
        # Without a ring: one row for each unit, and two behind.
        self.assertEqual(len(Lengths(timed_plan((1, 397), (("a", "b"),), "a", "b"))), 400)
        self.fails(TooMany, "moment", Lengths, timed_plan((1, 398), (("a", "b"),), "a", "b"))

    def test_against_laying_out_all_ways(self):
        seen = {}
        for plan in turned(random_plans(393, 200, 3) + rich_plans(394, 200, 3) + [full_plan(3)]):
            unit = gcd_of(plan)
            try:
                lengths = Lengths(plan)
            except TooMany as error:
                self.assertEqual(error.word, "moment")
                standings = seen_standings(plan, 400)
                self.assertEqual(len(set(standings)), 401)
                seen["many"] = True
                continue
            self.assertEqual(lengths.unit, unit)
            self.assertEqual(len(lengths), lengths.lag + lengths.period)
            standings = seen_standings(plan, 2 * len(lengths) + 3)
            self.assertEqual(list(lengths.table), standings[:len(lengths)])
            for moment, (_, over) in enumerate(standings):
                self.assertIs(moment * unit in lengths, over)
                if moment >= lengths.lag:
                    self.assertIs((moment + 10 ** 30 * lengths.period) * unit in lengths, over)
            self.assertIsNone(judge_lengths(plan, lengths.lag, lengths.table))
            seen[min(2, lengths.lag), min(3, lengths.period)] = True
        self.assertLessEqual({"many", (0, 3), (1, 1), (2, 1), (2, 3)}, set(seen))


class VersionTest(Case):
    def test_example(self):
        lengths = Lengths(example_plan())
        self.assertEqual(lengths.version_of(30), ("a", "b"))
        self.assertEqual(lengths.version_of(102), ("a", "c", "a", "c", "a", "b"))
        self.assertEqual((lengths.count_of(30), lengths.count_of(102)), (1, 1))
        for length in (0, 1, 2, 29, 31, 32, 65, 67, 800):
            self.assertIsNone(lengths.version_of(length))
            self.assertEqual(lengths.count_of(length), 0)

    def test_bounds(self):
        lengths = Lengths(example_plan())
        self.assertEqual((lengths.version_of(800), lengths.count_of(800)), (None, 0))
        self.assertEqual(len(lengths.version_of(786)), 44)
        for length in (801, 802, 10 ** 39, -1, True, False, None, "30", 30.0, (30,)):
            self.fails(BadLength, (length,), lengths.version_of, length)
            self.fails(BadLength, (length,), lengths.count_of, length)

    def test_the_fewest_pieces_go_ahead(self):
        plan = timed_plan((1, 2, 3), [(left, right) for left in "abc" for right in "abc"], "abc", "abc")
        lengths = Lengths(plan)
        self.assertEqual([lengths.version_of(length) for length in (1, 2, 3, 4, 5, 7)], [
            ("a",), ("b",), ("c",), ("a", "c"), ("b", "c"), ("a", "c", "c"),
        ])
        self.assertEqual([lengths.count_of(length) for length in range(8)], [0, 1, 2, 4, 7, 13, 24, 44])
        self.assertEqual(len(lengths.version_of(400)), 134)
        # Each version of 400 units can be counted.
        counts = [0, 1, 2, 4]
        while len(counts) < 401:
            counts.append(sum(counts[-3:]))
        self.assertEqual(lengths.count_of(400), counts[400])

    def test_in_for_things_that_are_none(self):
        lengths = Lengths(example_plan())
        for thing in (None, True, False, "30", 30.0, (30,), [30], {}, -30, -6, 31, 0):
            self.assertIs(thing in lengths, False)
        lengths = Lengths(timed_plan((1,), (("a", "a"),), "a", "a"))
        self.assertIs(True in lengths, False)
        self.assertIs(-1 in lengths, False)
        self.assertIs(1 in lengths, True)
        self.assertIs(10 ** 39 in lengths, True)
        self.assertIs(0 in lengths, False)

    def test_against_all_versions(self):
        seen = set()
        for plan in turned(random_plans(395, 150, 3) + rich_plans(396, 150, 3)):
            try:
                lengths = Lengths(plan)
            except TooMany:
                continue
            most = min(400 * lengths.unit, 6 * min(plan.shown_of(name) for name in plan.names) + 3)
            found = {}
            for version in all_versions(plan, most):
                found.setdefault(row_length(plan, version), []).append(version)
            for length in range(most + 1):
                rows = found.get(length, [None])
                self.assertEqual(lengths.version_of(length), rows[0])
                self.assertEqual(lengths.count_of(length), 0 if rows == [None] else len(rows))
                self.assertIs(length in lengths, rows != [None])
                seen.add(min(3, len(rows)))
            self.assertTrue(all(row_length(plan, version) in lengths for version in versions(plan, 4)))
        self.assertEqual(seen, {1, 2, 3})


class JudgeTest(Case):
    def test_the_beginning(self):
        plan = example_plan()
        lengths = Lengths(plan)
        for table in ((), [], None, 5, "ab", True, {}, lengths.table[1:], (lengths.table[1],) + lengths.table):
            self.assertEqual(judge_lengths(plan, 0, table), -1)
        for lag in (-1, 18, True, False, None, "0", 0.0, (0,), 10 ** 39):
            self.assertEqual(judge_lengths(plan, lag, lengths.table), -1)
        for row in (None, 5, "ab", (), ((),), ((), False), ((("a", 0),), True), ((("a", 0),), 0), ((("a", 0),), None),
                    ((("a", False),), False), ((("a", 0), ("a", 0)), False), ((("a", 0), ("b", 0)), False), ((("a", 0),), False, 1)):
            self.assertEqual(judge_lengths(plan, 0, (row,) + lengths.table[1:]), -1)
        rows = [[[list(pair) for pair in opens], over] for opens, over in lengths.table]
        self.assertIsNone(judge_lengths(plan, 0, rows))

    def test_lags(self):
        plan = timed_plan((1, 1), (("a", "a"), ("a", "b")), "a", "b")
        table = Lengths(plan).table
        self.assertEqual(len(table), 3)
        self.assertEqual([judge_lengths(plan, lag, table) for lag in (0, 1, 2)], [2, 2, None])
        # Longer tables that are right, too.
        longer = table + table[2:] * 3
        self.assertEqual([judge_lengths(plan, lag, longer) for lag in range(6)], [5, 5, None, None, None, None])
        plan = example_plan()
        table = Lengths(plan).table
        self.assertIsNone(judge_lengths(plan, 0, table * 2))
        self.assertIsNone(judge_lengths(plan, 18, table * 2))
        self.assertEqual(judge_lengths(plan, 17, table * 2), 35)
        self.assertEqual(judge_lengths(plan, 1, table), 17)
        self.assertIsNone(judge_lengths(plan, 1, table + table[:1]))

    def test_each_row_spoilt_in_each_part(self):
        plan = timed_plan((4, 6, 2), (("a", "b"), ("b", "a"), ("a", "c"), ("c", "a")), "a", "ac")
        lengths = Lengths(plan)
        for number, (opens, over) in enumerate(lengths.table):
            spoilt = [(opens, not over), (opens, 1), (opens, 0), (opens, None), (opens[1:], over), (opens[::-1] + (("a", 0),), over)]
            spoilt += [(opens + opens[-1:], over), (opens, over, over), (opens,), (None, over), None, 5, ("ab", over)]
            for at, (name, elapsed) in enumerate(opens):
                for pair in ((name, elapsed + 1), (name, elapsed - 1), ("d", elapsed), (name, True), (name,), None, ("b", 6), ([name], 0)):
                    spoilt.append((opens[:at] + (pair,) + opens[at + 1:], over))
            for row in spoilt:
                table = lengths.table[:number] + (row,) + lengths.table[number + 1:]
                told = judge_lengths(plan, lengths.lag, table)
                self.assertEqual(told, slowly_judged(plan, lengths.lag, table))
                self.assertIsNotNone(told)
            left_out = lengths.table[:number] + lengths.table[number + 1:]
            put_in = lengths.table[:number] + lengths.table[number:number + 1] + lengths.table[number:]
            for table in (left_out, put_in):
                self.assertEqual(judge_lengths(plan, lengths.lag, table), slowly_judged(plan, lengths.lag, table))

    def test_against_the_words(self):
        dice = random.Random(397)
        seen = set()
        for plan in random_plans(397, 200, 3):
            try:
                lengths = Lengths(plan)
            except TooMany:
                continue
            for _ in range(4):
                table = list(lengths.table) + list(lengths.table[lengths.lag:]) * dice.randint(0, 2)
                if dice.random() < 0.3:
                    table.pop(dice.randrange(len(table)))
                if dice.random() < 0.3 and table:
                    table[dice.randrange(len(table))] = dice.choice(lengths.table)
                lag = dice.choice((lengths.lag, lengths.lag, dice.randint(-1, len(table))))
                told = judge_lengths(plan, lag, tuple(table))
                self.assertEqual(told, slowly_judged(plan, lag, tuple(table)))
                seen.add(told if told in (None, -1) else 0)
        self.assertEqual(seen, {None, -1, 0})
