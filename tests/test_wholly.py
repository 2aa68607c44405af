"""[28]: desks that know each version whole."""

import random

from seamfast.desks import Desk
from seamfast.errors import BadRow, BadWay, TooMany
from seamfast.foresight import Foresight
from seamfast.leasts import least_foresight
from seamfast.plans import Plan
from seamfast.reels import Reel
from seamfast.wholly import Wholly, judge_fronts
from seamfast.ways import versions, ways
from tests.samples import Case, example_plan, random_plans, rich_plans
from tests.test_desks import example_desk, random_desk
from tests.test_leasts import late_desk
from tests.test_windows import silent_plan


def beats(pair, other):
    """Whether one pair of a lag and coins beats another one."""
    return pair != other and pair[0] <= other[0] and pair[1] >= other[1]


def slow_front(desk, way):
    """The front of a way, from all rows of levels."""
    led = {(0, desk.most)}
    for name in way:
        done = {desk.done(name, level, *pair) for pair in led for level in range(desk.levels)}
        led = done - {None}
    return tuple(sorted(pair for pair in led if not any(beats(other, pair) for other in led)))


def is_front(desk, pairs):
    """Whether a tuple has the form of a front."""
    def number(thing, most):
        return type(thing) is int and 0 <= thing <= most

    if not isinstance(pairs, tuple) or not pairs:
        return False
    for pair in pairs:
        if not isinstance(pair, tuple) or len(pair) != 2:
            return False
        if not number(pair[0], desk.full_points) or not number(pair[1], desk.most):
            return False
    return list(pairs) == sorted(set(pairs)) and not any(beats(one, two) for one in pairs for two in pairs)


def slow_step(desk, pairs, name):
    """The front behind a piece, from some pairs."""
    led = {desk.done(name, level, *pair) for pair in pairs for level in range(desk.levels)} - {None}
    return tuple(sorted(pair for pair in led if not any(beats(other, pair) for other in led)))


def slowly_judged(desk, table):
    """What judge_fronts tells of a tuple, in the words of [28]."""
    good = [row for row in table if isinstance(row, tuple) and len(row) == 2 and row[0] in desk.plan.names and is_front(desk, row[1])]
    if not all((name, slow_step(desk, ((0, desk.most),), name)) in good for name in desk.plan.starts):
        return -1
    for number, row in enumerate(table):
        if row not in good:
            return number
        if not all((name, slow_step(desk, row[1], name)) in good for name in desk.plan.followers(row[0])):
            return number
    return None


def counting_desk(many, more=()):
    """A desk whose lag grows by a point each time that a is shown, up to so many signs."""
    reel = Reel(20, ((0, 1, "ann", "x"),))
    pieces = [("a", 0, 2, 1, 2, "on")] + [(name, 5, 6, 1, 1, "on") for name in more]
    plan = Plan(reel, pieces, (("a", "a"),), ("a",) + tuple(more), ("a",) + tuple(more))
    return Desk(plan, (((1, 0), (0, 0)),), (1, 6), many, 0, 0)


class VerdictTest(Case):
    def test_all_done(self):
        desk = example_desk(room=13, most=1)
        verdict = Wholly(desk)
        self.assertIs(bool(verdict), True)
        self.assertIsNone(verdict.version)
        self.assertIs(verdict.desk, desk)
        self.assertEqual(verdict.table, (("a", ((4, 1),)), ("b", ((4, 1),)), ("c", ((0, 0), (4, 1)))))
        self.assertEqual((len(verdict), tuple(verdict)), (3, verdict.table))
        self.assertEqual(verdict.front(("a", "c", "a", "b")), ((4, 1),))
        self.assertEqual(verdict.front(["a", "c"]), ((0, 0), (4, 1)))

    def test_not_all_done(self):
        verdict = Wholly(Desk.plain(example_plan(), (2, 1), 13))
        self.assertIs(bool(verdict), False)
        self.assertEqual((verdict.version, verdict.table, len(verdict), list(verdict)), (("a", "c", "a", "b"), None, 0, []))
        self.assertEqual(verdict.front(("a", "c")), ((4, 0),))
        self.assertEqual(verdict.front(("a", "c", "a")), ())
        self.assertEqual(verdict.front(("a", "c", "a", "c")), ())

    def test_more_than_any_foresight(self):
        desk = late_desk(5)
        self.assertIsNone(least_foresight(desk))
        self.assertIs(bool(Foresight(desk, 4)), False)
        self.assertIs(bool(Wholly(desk)), True)
        self.assertEqual(Wholly(desk).front(("a",)), ((0, 0), (30, 1)))

    def test_errors(self):
        verdict = Wholly(example_desk(room=13))
        for way in ((), None, "ab", ("a",) * 401):
            self.fails(BadRow, -1, verdict.front, way)
        self.fails(BadRow, 1, verdict.front, ("b", "d"))
        self.fails(BadWay, 0, verdict.front, ("b",))
        self.fails(BadWay, 1, verdict.front, ("a", "a"))
        long = ("a", "c") * 200
        self.assertEqual(verdict.front(long), slow_front(verdict.desk, long))

    def test_against_all_rows_of_levels(self):
        dice = random.Random(151)
        seen = [0, 0, 0]
        for plan in random_plans(151, 150, 3) + rich_plans(152, 200, 3):
            desk = random_desk(dice, plan, room=dice.choice((8, 12, 20, 40)))
            try:
                verdict = Wholly(desk)
            except TooMany:
                seen[2] += 1
                continue
            rows = list(ways(plan, 6))
            fronts = {way: slow_front(desk, way) for way in rows}
            for way in rows:
                self.assertEqual(verdict.front(way), fronts[way])
            undone = [version for version in versions(plan, 6) if not fronts[version]]
            if verdict:
                seen[0] += 1
                self.assertEqual(undone, [])
                order = []
                for way in rows:
                    if (way[-1], fronts[way]) not in order:
                        order.append((way[-1], fronts[way]))
                self.assertEqual(verdict.table[:len(order)], tuple(order))
                self.assertEqual(len(set(verdict.table)), len(verdict.table))
                self.assertIsNone(judge_fronts(desk, verdict.table))
            else:
                seen[1] += 1
                self.assertEqual(verdict.front(verdict.version), ())
                if len(verdict.version) <= 6:
                    self.assertEqual(verdict.version, undone[0])
                else:
                    self.assertEqual(undone, [])
                self.assertIsNone(least_foresight(desk))
        self.assertGreater(min(seen[:2]), 40)


class BoundTest(Case):
    def test_as_many_fronts_as_are_let(self):
        # Level 1 sends nothing: the front is always the lag 0.
        self.assertEqual(Wholly(counting_desk(10)).table, (("a", ((0, 0),)),))
        plan = counting_desk(10).plan
        # A turn sends 12 points and has 2 grains. At 22 points read in a turn nothing is left.
        quick = Desk(plan, (((1, 0),),), (11, 6), 100, 0, 0)
        self.assertEqual(quick.full_points, 1200)
        self.assertEqual(Wholly(quick).table, (("a", ((0, 0),)),))
        # At 10 read the lag grows by 2 points in each turn, up to those of the room behind a send.
        self.fails(TooMany, "front", Wholly, Desk(plan, (((1, 0),),), (5, 6), 100, 0, 0))
        # With 792 points each lag up to 780 can be gone on with.
        self.assertEqual(Wholly(Desk(plan, (((1, 0),),), (5, 6), 66, 0, 0)).version, ("a",) * 392)

    def test_those_with_an_empty_front_are_left_aside(self):
        reel = Reel(20, ((0, 1, "ann", "x"),))

        def desk(room, quiet):
            pieces = [("a", 0, 2, 1, 2, "on")] + [(name, 5, 6, 1, 1, "on") for name in quiet]
            plan = Plan(reel, pieces, (("a", "a"),), ("a",) + tuple(quiet), ("a",) + tuple(quiet))
            return Desk(plan, (((1, 0),),), (5, 6), room, 0, 0)

        # 391 standings of a, the empty one of a, and those of the quiet pieces.
        self.assertEqual(Wholly(desk(66, "bcdefghij")).version, ("a",) * 392)
        self.fails(TooMany, "front", Wholly, desk(66, "bcdefghijk"))
        self.fails(TooMany, "front", Wholly, desk(66, "bcdefghijkl"))
        self.assertEqual(Wholly(desk(65, "bcdefghijkl")).version, ("a",) * 386)

    def test_as_many_fronts_of_a_desk_that_can_do_all(self):
        # A quiet piece of one grain, from a lag that is read point by point.
        reel = Reel(20, ((0, 2, "ann", "x"),))

        def desk(signs, more):
            pieces = [("a", 0, 1, 1, 6, "on"), ("b", 3, 4, 1, 6, "on")] + [(name, 5, 6, 1, 1, "on") for name in more]
            arrows = (("a", "b"), ("b", "b"))
            plan = Plan(reel, pieces, arrows, ("a",) + tuple(more), ("b",) + tuple(more))
            return Desk(plan, (((signs, 0),),), (1, 2), 100, 0, 0)

        # A sign has 12 points, and a grain reads one.
        verdict = Wholly(desk(33, "c"))
        self.assertEqual(len(verdict), 1 + 396 - 1 + 1)
        self.assertIs(bool(verdict), True)
        self.assertEqual(verdict.table[:3], (("a", ((395, 0),)), ("c", ((0, 0),)), ("b", ((394, 0),))))
        self.assertEqual(len(Wholly(desk(33, "cdef"))), 400)
        self.fails(TooMany, "front", Wholly, desk(33, "cdefg"))


class JudgeTest(Case):
    def setUp(self):
        self.desk = example_desk(room=13, most=1)
        self.table = Wholly(self.desk).table

    def judged(self, table):
        return judge_fronts(self.desk, table)

    def test_the_table_told(self):
        self.assertIsNone(self.judged(self.table))
        self.assertIsNone(self.judged([[name, [list(pair) for pair in pairs]] for name, pairs in self.table]))
        self.assertIsNone(self.judged(self.table[::-1]))
        self.assertIsNone(self.judged(self.table * 2))

    def test_pairs_left_out_or_put_in(self):
        one, two, (name, pairs) = self.table
        self.assertEqual((name, pairs), ("c", ((0, 0), (4, 1))))
        for other in (pairs[:1], pairs[1:], ((0, 0), (3, 1)), ((0, 1),)):
            self.assertEqual(self.judged((one, two, ("c", other))), 0)
        self.assertEqual(self.judged((("a", ((5, 1),)), two, self.table[2])), -1)
        # Further standings are judged like others: what they lead to must be there.
        self.assertEqual(self.judged(self.table + (("c", ((3, 1),)),)), 3)
        self.assertIsNone(self.judged(self.table + (("c", ((0, 0), (3, 1))),)))
        self.assertIsNone(self.judged(self.table + (("b", ((0, 0), (7, 1))),)))
        self.assertIsNone(self.judged(self.table + (("c", ((0, 1),)),)))

    def test_wrong_forms(self):
        full = self.desk.full_points
        for pairs in (
            (), None, 5, "ab", ((4, 1), (0, 0)), ((0, 0), (4, 0)), ((0, 0), (0, 1)), ((0, 1), (4, 1)), ((0, 1), (4, 0)),
            ((0, 0), (0, 0)), ((-1, 0),), ((full + 1, 0),), ((0, 2),), ((0, -1),), ((True, 0),), ((4, True),), ((0, False),),
            ((0, None),), (0, 0), ((0,),), ((0, 0, 0),), (None,), ("00",), {}, ((0.0, 1),),
        ):
            row = ("b", pairs)
            self.assertEqual(self.judged(self.table + (row,)), 3, row)
            self.assertEqual(self.judged((row,) + self.table), 0, row)
        for row in (None, 5, "b", (), ("b",), ("b", ((0, 0),), 1), ("d", ((0, 0),)), (None, ((0, 0),)), (["b"], ((0, 0),)), {}):
            self.assertEqual(self.judged(self.table + (row,)), 3, row)
        self.assertIsNone(self.judged(self.table + (("b", ((0, 0), (full, 1))),)))

    def test_lacking_rows(self):
        self.assertEqual(self.judged(self.table[1:]), -1)
        self.assertEqual(self.judged(self.table[:1] + self.table[2:]), 0)
        self.assertEqual(self.judged(self.table[:2]), 0)
        self.assertEqual(self.judged(self.table[1:] + self.table[1:]), -1)
        for table in ((), None, 5, "abc", {}, True):
            self.assertEqual(self.judged(table), -1)

    def test_empty_fronts_are_in_no_table(self):
        beaten = Desk.plain(example_plan(), (2, 1), 13)
        table = (("a", ((4, 0),)), ("b", ((4, 0),)), ("c", ((4, 0),)), ("a", ()))
        self.assertEqual(judge_fronts(beaten, table), 2)
        self.assertEqual(judge_fronts(Desk.plain(example_plan(), (2, 1), 11), (("a", ()),)), -1)

    def test_against_the_words(self):
        dice = random.Random(153)
        seen = set()
        for plan in random_plans(153, 100, 3) + rich_plans(154, 150, 3):
            desk = random_desk(dice, plan, room=dice.choice((12, 20, 40)))
            try:
                table = Wholly(desk).table
            except TooMany:
                continue
            if table is None:
                continue
            for _ in range(4):
                rows = list(table)
                for number, (name, pairs) in enumerate(rows):
                    if dice.random() < 0.05:
                        lag, coins = dice.choice(pairs)
                        changed = pairs + ((lag + dice.choice((0, 1)), coins + dice.choice((-1, 0, 1))),)
                        rows[number] = (name, tuple(sorted(changed)) if dice.random() < 0.5 else pairs[1:])
                if dice.random() < 0.3:
                    rows.pop(dice.randrange(len(rows)))
                dice.shuffle(rows)
                told = judge_fronts(desk, tuple(rows))
                self.assertEqual(told, slowly_judged(desk, tuple(rows)))
                seen.add(told if told in (None, -1) else 0)
        self.assertEqual(seen, {None, -1, 0})

    def test_plans_without_sends(self):
        plan = silent_plan(2, (("a", "b"), ("b", "a")), ("a",), ("b",))
        desk = Desk(plan, (), (1, 1), 0, 2, 0)
        self.assertEqual(Wholly(desk).table, (("a", ((0, 2),)), ("b", ((0, 2),))))
