"""[16]: whether all versions keep the rules."""

import random

from seamfast.allversions import AllVersions, judge_standings
from seamfast.books import Book
from seamfast.errors import TooMany
from seamfast.plans import Plan
from seamfast.reels import Reel
from seamfast.rules import Rules, breaches
from seamfast.standings import broken_at_end, gone_on, horizon, standing_of
from seamfast.ways import versions, ways
from tests.samples import Case, example_plan, random_plans
from tests.test_rules import random_rules
from tests.test_standings import random_standing


def gentle_rules(dice):
    """Rules that are often kept."""
    return Rules(
        short=dice.choice((0, 0, 0, 1)), long=dice.choice((None, None, 20)), gap=dice.choice((0, 0, 1, 2)),
        again=dice.choice((0, 0, 2, 4)), pace=dice.choice((None, None, (30, 1))),
    )


def quiet_plan(starts=("a",)):
    """A plan in which the time since the only cue grows until it counts no more."""
    reel = Reel(20, ((0, 4, "ann", "good evening"),))
    pieces = [("a", 0, 4, 1, 2, "on"), ("b", 4, 5, 1, 2, "on"), ("c", 8, 16, 1, 1, "back")]
    kept = [piece for piece in pieces if piece[0] == "b" or piece[0] in starts]
    return Plan(reel, kept, [(name, "b") for name in starts] + [("b", "b")], starts, ("b",))


def all_standings(plan, book, rules, most):
    """The standings of all ways, as far as there are not more than so many."""
    found = [gone_on(plan, book, rules, None, name)[0] for name in plan.starts]
    for standing in found:
        for name in plan.followers(standing[0]):
            behind = gone_on(plan, book, rules, standing, name)[0]
            if behind not in found and len(found) <= most:
                found.append(behind)
    return found


def has_form(plan, book, rules, row):
    """Whether a row of tuples has the form of a standing."""
    cues = range(len(plan.reel.cues))

    def number(thing, low, high):
        return isinstance(thing, int) and not isinstance(thing, bool) and low <= thing <= high

    if not isinstance(row, tuple) or len(row) != 4 or not isinstance(row[0], str) or row[0] not in plan.names:
        return False
    _, pending, carrying, ages = row
    if pending is not None:
        if not isinstance(pending, tuple) or len(pending) != 2 or not number(pending[0], 0, len(cues) - 1):
            return False
        if not number(pending[1], 1, book.least * plan.grain - 1):
            return False
    if carrying is not None:
        most = horizon(plan, book, rules) + 1
        if not isinstance(carrying, tuple) or len(carrying) != 3 or not number(carrying[0], 0, len(cues) - 1):
            return False
        if not number(carrying[1], 1, most) or not number(carrying[2], 0, most):
            return False
    if not isinstance(ages, tuple) or (carrying is None and ages):
        return False
    last = -1
    for age in ages:
        if not isinstance(age, tuple) or len(age) != 2 or not number(age[0], last + 1, len(cues) - 1):
            return False
        if age[0] == carrying[0] or not number(age[1], 0, rules.again * plan.grain - 1):
            return False
        last = age[0]
    return True


def slowly_judged(plan, book, rules, table):
    """What judge_standings tells of a tuple of rows, in the words of [16]."""
    good = [row for row in table if has_form(plan, book, rules, row)]
    for start in plan.starts:
        standing, words = gone_on(plan, book, rules, None, start)
        if words or standing not in good:
            return -1
    for number, row in enumerate(table):
        if not has_form(plan, book, rules, row):
            return number
        if row[0] in plan.ends and broken_at_end(plan, book, rules, row):
            return number
        for name in plan.followers(row[0]):
            standing, words = gone_on(plan, book, rules, row, name)
            if words or standing not in good:
                return number
    return None


class VerdictTest(Case):
    def test_kept(self):
        plan = example_plan()
        verdict = AllVersions(plan, Book(1, 2), Rules(gap=2))
        self.assertIs(bool(verdict), True)
        self.assertEqual((verdict.version, verdict.breach), (None, None))
        self.assertEqual(verdict.table, (
            ("a", None, (1, 5, 0), ()), ("b", None, (2, 5, 0), ()), ("c", None, (1, 5, 0), ()),
        ))
        self.assertEqual(len(verdict), 3)
        self.assertEqual(tuple(verdict), verdict.table)

    def test_not_kept(self):
        plan = example_plan()
        verdict = AllVersions(plan, Book(1, 2), Rules(gap=3))
        self.assertIs(bool(verdict), False)
        self.assertEqual((verdict.version, verdict.breach, verdict.table), (("a", "b"), (1, "gap"), None))
        self.assertEqual((len(verdict), list(verdict)), (0, []))

    def test_a_breach_that_comes_late(self):
        plan = example_plan()
        # Cue 0 comes again soonest in a, c, a: from 8 to 36 and 44 grains; it is again 14 ticks behind its end.
        verdict = AllVersions(plan, Book(1, 2), Rules(again=15))
        self.assertEqual((verdict.version, verdict.breach), (("a", "c", "a", "b"), (3, "again")))
        verdict = AllVersions(plan, Book(0, 0), Rules(short=2))
        self.assertIs(bool(verdict), True)
        verdict = AllVersions(plan, Book(0, 0), Rules(short=3))
        self.assertEqual((verdict.version, verdict.breach), (("a", "c", "a", "b"), (2, "short")))

    def test_broken_by_ending(self):
        reel = Reel(20, ((0, 10, "ann", "good evening"),))
        pieces = (("a", 0, 2, 1, 1, "on"), ("b", 2, 4, 1, 1, "on"))
        plan = Plan(reel, pieces, (("a", "b"), ("b", "b")), ("a",), ("a", "b"))
        verdict = AllVersions(plan, Book(0, 0), Rules(short=3))
        self.assertEqual((verdict.version, verdict.breach), (("a",), (0, "short")))
        plan = Plan(reel, pieces, (("a", "b"), ("b", "b")), ("a",), ("b",))
        self.assertIs(bool(AllVersions(plan, Book(0, 0), Rules(short=3))), True)
        verdict = AllVersions(plan, Book(0, 0), Rules(long=5))
        self.assertEqual((verdict.version, verdict.breach), (("a", "b", "b"), (0, "long")))

    def test_rings(self):
        reel = Reel(20, ((0, 10, "ann", "good evening"), (12, 14, "bob", "late")))
        pieces = (("a", 0, 2, 1, 1, "on"), ("b", 2, 4, 1, 1, "on"), ("c", 10, 14, 1, 1, "on"))
        plan = Plan(reel, pieces, (("a", "b"), ("b", "b"), ("b", "c")), ("a",), ("c",))
        verdict = AllVersions(plan, Book(0, 0), Rules(long=9))
        self.assertEqual((verdict.version, verdict.breach), (("a", "b", "b", "b", "b", "c"), (0, "long")))
        verdict = AllVersions(plan, Book(0, 0), Rules(gap=2, short=2))
        self.assertIs(bool(verdict), True)

    def test_against_versions_one_by_one(self):
        dice = random.Random(39)
        seen = [0, 0]
        for plan in random_plans(39, 400, 3):
            book = Book(dice.randint(0, 3), dice.randint(0, 4))
            rules = dice.choice((random_rules, gentle_rules, gentle_rules))(dice)
            if len(all_standings(plan, book, rules, 400)) > 400:
                self.fails(TooMany, "standing", AllVersions, plan, book, rules)
                continue
            verdict = AllVersions(plan, book, rules)
            seen[bool(verdict)] += 1
            found = [row for row in versions(plan, 7) if breaches(plan, book, rules, row)]
            if verdict:
                self.assertEqual(found, [])
                self.assertIsNone(judge_standings(plan, book, rules, verdict.table))
                self.check_table(plan, book, rules, verdict.table)
                self.assertEqual(set(verdict.table), set(all_standings(plan, book, rules, 400)))
            elif len(verdict.version) <= 7:
                self.assertEqual(verdict.version, found[0])
                self.assertEqual(verdict.breach, breaches(plan, book, rules, found[0])[0])
            else:
                self.assertEqual(found, [])
        self.assertGreater(min(seen), 50)

    def check_table(self, plan, book, rules, table):
        """The table is the standings of all ways, in the order in which the ways come to them."""
        order = []
        for row in ways(plan, 7):
            standing = standing_of(plan, book, rules, row)
            if standing not in order:
                order.append(standing)
        self.assertEqual(table[:len(order)], tuple(order))
        self.assertEqual(len(table), len(set(table)))

    def test_the_least_version_can_be_very_long(self):
        # In a the cue is shown one grain longer each time, and this is judged only when c has come again.
        reel = Reel(20, ((0, 10, "ann", "good evening"), (12, 14, "bob", "x")))
        pieces = (
            ("a", 0, 1, 1, 3, "on"), ("c", 12, 13, 1, 1, "on"), ("d", 15, 16, 1, 1, "on"), ("e", 15, 17, 1, 1, "on"),
            ("f", 15, 18, 1, 1, "on"),
        )
        arrows = (("c", "d"), ("d", "e"), ("e", "f"), ("f", "a"), ("a", "a"), ("a", "c"))
        plan = Plan(reel, pieces, arrows, ("c",), ("f",))
        verdict = AllVersions(plan, Book(0, 0), Rules(long=131))
        self.assertEqual(verdict.version, tuple("cdef") + ("a",) * 394 + tuple("cdef"))
        self.assertEqual(len(verdict.version), 402)
        self.assertEqual(verdict.breach, (1, "long"))


class BoundTest(Case):
    def test_as_many_standings_as_are_let(self):
        plan = quiet_plan()
        # One for a; for b one for each gap of 1 to 2 * 198 + 1 grains; then the horizon is one tick more.
        verdict = AllVersions(plan, Book(0, 0), Rules(gap=199))
        self.assertEqual(len(verdict), 1 + 2 * 199 + 1)
        self.fails(TooMany, "standing", AllVersions, plan, Book(0, 0), Rules(gap=200))
        more = quiet_plan(("a", "c"))
        # One more for c, and one for b behind c.
        self.assertEqual(len(AllVersions(more, Book(0, 0), Rules(gap=198))), 1 + 2 * 198 + 1 + 2)
        self.fails(TooMany, "standing", AllVersions, more, Book(0, 0), Rules(gap=199))
        pieces = plan.pieces + (("d", 8, 9, 1, 1, "on"),)
        one_more = Plan(plan.reel, pieces, plan.arrows, ("a", "d"), ("b", "d"))
        self.assertEqual(len(AllVersions(one_more, Book(0, 0), Rules(gap=198))), 1 + 2 * 198 + 1 + 1)
        self.fails(TooMany, "standing", AllVersions, one_more, Book(0, 0), Rules(gap=199))

    def test_whether_or_not_the_rules_are_kept(self):
        plan = quiet_plan()
        verdict = AllVersions(plan, Book(0, 0), Rules(gap=199, short=3))
        self.assertEqual((verdict.version, verdict.breach), (("a", "b"), (0, "short")))
        self.fails(TooMany, "standing", AllVersions, plan, Book(0, 0), Rules(gap=200, short=3))
        self.fails(TooMany, "standing", AllVersions, plan, Book(0, 0), Rules(again=200))
        self.fails(TooMany, "standing", AllVersions, plan, Book(0, 0), Rules(long=200))


class JudgeTest(Case):
    BOOK = Book(3, 2)
    RULES = Rules(gap=2, again=4)

    def setUp(self):
        self.plan = example_plan()
        verdict = AllVersions(self.plan, self.BOOK, self.RULES)
        self.table = verdict.table
        self.assertIs(bool(verdict), True)

    def judged(self, table):
        return judge_standings(self.plan, self.BOOK, self.RULES, table)

    def test_the_table_told(self):
        self.assertIsNone(self.judged(self.table))
        self.assertEqual(len(self.table), 3)

    def test_other_orders_and_rows_twice(self):
        self.assertIsNone(self.judged(self.table[::-1]))
        self.assertIsNone(self.judged(self.table + self.table))
        self.assertIsNone(self.judged(self.table[2:] + self.table[:3]))

    def test_lists(self):
        table = [[name, pending, list(carrying), [list(age) for age in ages]] for name, pending, carrying, ages in self.table]
        before = repr(table)
        self.assertIsNone(self.judged(table))
        self.assertEqual(repr(table), before)

    def test_no_tuples(self):
        for table in (None, 5, "abcd", {}, True, ()):
            self.assertEqual(self.judged(table), -1)

    def test_without_a_start(self):
        start = standing_of(self.plan, self.BOOK, self.RULES, ("a",))
        self.assertEqual(self.judged([row for row in self.table if row != start]), -1)
        self.assertEqual(self.judged(([None],)), -1)
        # A start that is come to with a breach is never right.
        for rules in (Rules(gap=3), Rules(short=5)):
            standing, words = gone_on(self.plan, Book(0, 0), rules, None, "a")
            self.assertEqual(len(words), 1)
            self.assertEqual(judge_standings(self.plan, Book(0, 0), rules, (standing,)), -1)

    def test_without_a_row(self):
        start = standing_of(self.plan, self.BOOK, self.RULES, ("a",))
        for lost in self.table:
            if lost == start:
                continue
            rest = [row for row in self.table if row != lost]
            found = self.judged(rest)
            self.assertIsNotNone(found)
            self.assertIn(lost, [
                gone_on(self.plan, self.BOOK, self.RULES, rest[found], name)[0]
                for name in self.plan.followers(rest[found][0])
            ])

    def test_wrong_forms(self):
        good = ("b", (1, 5), (2, 3, 4), ((0, 0), (1, 7)))
        self.assertEqual(horizon(self.plan, self.BOOK, self.RULES), 8)
        self.assertIsNone(self.judged(self.table + (good, ("b", (2, 1), (2, 9, 9), ()), ("b", None, None, ()))))
        wrong = (
            None, 5, "b", (), good[:3], good + (1,), {}, ("d",) + good[1:], (None,) + good[1:], (["b"],) + good[1:],
            ("b", (1, 6)) + good[2:], ("b", (1, 0)) + good[2:], ("b", (3, 5)) + good[2:], ("b", (-1, 5)) + good[2:],
            ("b", (True, 5)) + good[2:], ("b", (1, True)) + good[2:], ("b", (1,)) + good[2:], ("b", ()) + good[2:],
            ("b", (1, 5, 0)) + good[2:], ("b", 5) + good[2:], ("b", False) + good[2:], ("b", "15") + good[2:],
        )
        for carrying in (
            (2, 0, 4), (2, 10, 4), (2, 3, -1), (2, 3, 10), (3, 3, 4), (-1, 3, 4), (2, 3), (2, 3, 4, 5), (), 2, "234", False,
            (2, True, 4), (2, 3, False), (True, 3, 4), (2, None, 4), (None, 3, 4),
        ):
            wrong += (("b", None, carrying, ()),)
        for ages in (
            None, 5, "", False, {}, ((0, 8),), ((0, -1),), ((0, True),), ((False, 5),), ((2, 5),), ((3, 5),), ((-1, 5),),
            ((1, 5), (0, 5)), ((0, 5), (0, 5)), ((0,),), ((0, 5, 1),), (None,), ("05",), ((0, None),), ((1, 5), (2, 5)),
        ):
            wrong += (("b", None, (2, 3, 4), ages),)
        wrong += (("b", None, None, ((0, 5),)), ("b", None, None, None))
        for row in wrong:
            self.assertEqual(self.judged(self.table + (row,)), len(self.table), row)
            self.assertEqual(self.judged(self.table + (good, row, good, None)), len(self.table) + 1)
            self.assertEqual(self.judged((row,) + self.table), 0)

    def test_nothing_is_pending_without_a_least(self):
        plan = example_plan()
        table = AllVersions(plan, Book(0, 0), Rules()).table
        self.assertIsNone(judge_standings(plan, Book(0, 0), Rules(), table))
        self.assertEqual(judge_standings(plan, Book(0, 0), Rules(), table + (("b", (1, 1), None, ()),)), len(table))
        self.assertEqual(judge_standings(plan, Book(0, 0), Rules(), table + (("b", None, (1, 1, 0), ((0, 0),)),)), len(table))

    def test_rows_never_reached_are_judged(self):
        rules = Rules(gap=2, again=4, short=3)
        table = AllVersions(self.plan, self.BOOK, rules).table
        for row, right in (
            (("b", None, (0, 6, 9), ()), True), (("b", None, (0, 5, 9), ()), False), (("c", None, (1, 7, 4), ()), True),
            (("c", None, (1, 5, 4), ()), False), (("c", None, (1, 7, 4), ((0, 3),)), False),
            (("a", None, (0, 7, 4), ((1, 5),)), False), (("c", None, (1, 7, 3), ((2, 7),)), True),
        ):
            self.assertEqual(judge_standings(self.plan, self.BOOK, rules, table + (row,)), None if right else len(table))

    def test_what_stands_in_wrong_rows_is_lacking(self):
        start = standing_of(self.plan, self.BOOK, self.RULES, ("a",))
        like = (start[0], start[1], start[2], start[3] + (None,))
        rest = tuple(row for row in self.table if row != start)
        self.assertEqual(self.judged((like,) + rest), -1)
        # True would be the number 1 for Python, but is no integer.
        least = ("b", None, (1, 1, 0), ())
        plan = Plan(Reel(9, ((0, 1, "a", "x"), (1, 2, "a", "y"))), (("b", 1, 2, 1, 1, "on"),), (), ("b",), ("b",))
        self.assertIsNone(judge_standings(plan, Book(0, 0), Rules(), (least,)))
        for row in (("b", None, (True, 1, 0), ()), ("b", None, (1, True, 0), ()), ("b", None, (1, 1, False), ())):
            self.assertEqual(judge_standings(plan, Book(0, 0), Rules(), (row,)), -1)
            self.assertEqual(judge_standings(plan, Book(0, 0), Rules(), (row, least)), 0)
            self.assertEqual(judge_standings(plan, Book(0, 0), Rules(), (least, row)), 1)

    def test_great_tables_raise_no_error(self):
        plan = quiet_plan()
        rules = Rules(gap=200)
        rows = [("a", None, (0, 4, 0), ())] + [("b", None, (0, 4, gap), ()) for gap in range(1, 402)]
        self.assertIsNone(judge_standings(plan, Book(0, 0), rules, rows))
        self.assertEqual(judge_standings(plan, Book(0, 0), rules, rows[:-1]), 400)

    def test_against_the_words(self):
        dice = random.Random(40)
        seen = set()
        for plan in random_plans(40, 300, 3):
            book = Book(dice.randint(0, 3), dice.randint(0, 4))
            rules = gentle_rules(dice)
            rows = all_standings(plan, book, rules, 60)
            for _ in range(3):
                table = list(rows)
                for _ in range(dice.randint(0, 2)):
                    table.insert(dice.randint(0, len(table)), random_standing(dice, plan, book, rules))
                for _ in range(dice.randint(0, min(2, len(table)))):
                    table.pop(dice.randrange(len(table)))
                told = judge_standings(plan, book, rules, tuple(table))
                self.assertEqual(told, slowly_judged(plan, book, rules, tuple(table)))
                seen.add(told if told in (None, -1) else 0)
        self.assertEqual(seen, {None, -1, 0})
