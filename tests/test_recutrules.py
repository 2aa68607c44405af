"""[45]: rules behind a re-cut."""

import random

from seamfast.allversions import AllVersions, judge_standings
from seamfast.books import Book
from seamfast.errors import TooMany
from seamfast.plans import Plan
from seamfast.reels import Reel
from seamfast.recutrules import RecutRules, judge_recut
from seamfast.recuts import Recut
from seamfast.rules import Rules, breaches
from seamfast.standings import broken_at_end, gone_on
from seamfast.ways import versions, ways
from tests.samples import Case, example_plan, random_plans, rich_plans, turned
from tests.test_allversions import gentle_rules, has_form
from tests.test_carries import recut_of
from tests.test_recutpairs import put_out
from tests.test_recuts import random_recut

BOOK = Book(1, 2)


def cue_plan():
    """A plan in which each piece has at most one cue, on the screen for two of its four ticks."""
    reel = Reel(40, ((0, 2, "ann", "one"), (4, 6, "bob", "two"), (8, 10, "cy", "three")))
    pieces = (("x", 0, 4, 1, 1, "on"), ("y", 4, 8, 1, 1, "on"), ("z", 8, 12, 1, 1, "on"), ("v", 20, 24, 1, 1, "on"))
    return Plan(reel, pieces, (("x", "y"),), ("x", "z", "v"), ("y", "z", "v"))


def slow_standing(recut, other, book, rules, way):
    """The standing of a way; None if it goes wrong."""
    led = put_out(recut, way)
    if led is None or any(name not in other.names for name in led[1]):
        return None
    shown = None
    for name in led[1]:
        shown, _ = gone_on(other, book, rules, shown, name)
    return way[-1], led[0], shown


def first_breach(recut, other, book, rules, version):
    """Whether the row made of a version keeps the rules, and its breach."""
    made = recut(version)
    if made is None or any(name not in other.names for name in made):
        return False, None
    found = breaches(other, book, rules, made) if made else ()
    return not found, found[0] if found else None


def all_standings(recut, plan, other, book, rules, most):
    """The standings of all ways in their order, as far as there are not more than so many."""
    ways_to = {}
    level = [(name,) for name in sorted(plan.starts)]
    while level and len(ways_to) <= most:
        longer = []
        for way in level:
            standing = slow_standing(recut, other, book, rules, way)
            if standing is not None and standing not in ways_to:
                ways_to[standing] = way
                longer.extend(way + (name,) for name in plan.followers(way[-1]))
        level = longer
    return ways_to


def slowly_judged(recut, plan, other, book, rules, table):
    """What judge_recut tells of a tuple, in the words of [45]."""
    def formed(row):
        if not isinstance(row, tuple) or len(row) != 3 or row[0] not in plan.names:
            return False
        if not isinstance(row[1], int) or isinstance(row[1], bool) or not 0 <= row[1] <= 35:
            return False
        return row[2] is None or has_form(other, book, rules, row[2])

    def led(shown, names):
        for name in names:
            if name not in other.names:
                return "wrong"
            shown, words = gone_on(other, book, rules, shown, name)
            if words:
                return "wrong"
        return shown

    def good_steps(row, names):
        for name in names:
            found = [entry for entry in recut.entries if entry[:2] == (row[1], name)]
            if not found or led(row[2], found[0][3]) == "wrong":
                return False
            if (name, found[0][2], led(row[2], found[0][3])) not in good:
                return False
        return True

    good = [row for row in table if formed(row)]
    if not good_steps((None, 0, None), plan.starts):
        return -1
    for number, row in enumerate(table):
        if not formed(row):
            return number
        if row[0] in plan.ends:
            found = [out for state, out in recut.tails if state == row[1]]
            shown = led(row[2], found[0]) if found else "wrong"
            if shown == "wrong" or (shown is not None and broken_at_end(other, book, rules, shown)):
                return number
        if not good_steps(row, plan.followers(row[0])):
            return number
    return None


def made_recut(dice, plan, other):
    """A re-cut from rows of the plan to rows of the other one."""
    recut = random_recut(dice, plan.names, other.names, dice.randint(1, 2), dice.choice((0.95, 1, 1, 1)), 2)
    if dice.random() < 0.15:
        entries = list(recut.entries)
        if entries:
            at = dice.randrange(len(entries))
            entries[at] = entries[at][:3] + (entries[at][3] + ("nowhere",)[:1],)
        recut = Recut(entries, recut.tails)
    return recut


class VerdictTest(Case):
    def test_same(self):
        plan = example_plan()
        same = Recut.same(plan.names)
        for rules in (Rules(gap=2), Rules(gap=3), Rules(short=3), Rules(again=15), Rules(long=4), Rules()):
            verdict = RecutRules(same, plan, plan, BOOK, rules)
            whole = AllVersions(plan, BOOK, rules)
            self.assertEqual((verdict.version, verdict.breach, bool(verdict)), (whole.version, whole.breach, bool(whole)))
            if whole:
                self.assertEqual(verdict.table, tuple((row[0], 0, row) for row in whole.table))
                self.assertEqual((len(verdict), list(verdict)), (len(whole), list(verdict.table)))
            else:
                self.assertEqual((verdict.table, len(verdict), list(verdict)), (None, 0, []))

    def test_each_word(self):
        plan = Plan(Reel(5), [(name, 0, 1, 1, 1, "on") for name in "abc"], (("a", "b"), ("b", "b"), ("b", "c")), ("a",), ("c",))
        other = cue_plan()
        loose = Book(0, 0)
        # Broken amid the row, by an entry; at its end, by an entry and by a tail.
        for rules, entries, tails, breach in (
            (Rules(gap=3), "0a0x 0b0 0c0y", "0", (1, "gap")), (Rules(gap=3), "0a0x 0b0y 0c0", "0", (1, "gap")),
            (Rules(gap=3), "0a0x 0b0 0c0", "0y", (1, "gap")), (Rules(gap=3), "0a0xv 0b0 0c0", "0y", None),
            (Rules(again=3), "0a0x 0b0 0c0x", "0", (1, "again")), (Rules(again=3), "0a0x 0b0 0c0", "0x", (1, "again")),
            (Rules(again=3), "0a0x 0b0x 0c0v", "0v", (1, "again")), (Rules(again=7), "0a0x 0b0 0c0v", "0x", (1, "again")),
            (Rules(again=6), "0a0x 0b0 0c0v", "0x", None),
            (Rules(short=3), "0a0x 0b0 0c0", "0", (0, "short")), (Rules(short=3), "0a0 0b0 0c0", "0x", (0, "short")),
            (Rules(short=3), "0a0 0b0x 0c0y", "0", (0, "short")), (Rules(short=2), "0a0x 0b0y 0c0z", "0x", None),
            (Rules(long=1), "0a0x 0b0 0c0v", "0v", (0, "long")), (Rules(long=1), "0a0 0b0 0c0", "0vx", (0, "long")),
            (Rules(long=2), "0a0x 0b0y 0c0z", "0x", None),
            (Rules(pace=(2, 1)), "0a0x 0b0y 0c0z", "0", (2, "pace")), (Rules(pace=(2, 1)), "0a0x 0b0 0c0", "0z", (1, "pace")),
            (Rules(pace=(5, 2)), "0a0x 0b0y 0c0z", "0z", None), (Rules(pace=(2, 1)), "0a0x 0b0 0c0y", "0", None),
            # The row x y is joined by an arrow of the other plan, the others are not: this does not matter.
            (Rules(gap=2), "0a0xy 0b0 0c0", "0", None), (Rules(gap=2), "0a0yx 0b0yy 0c0", "0xx", None),
        ):
            recut = recut_of(entries, tails)
            verdict = RecutRules(recut, plan, other, loose, rules)
            self.assertEqual(verdict.breach, breach, (entries, tails))
            first = [version for version in versions(plan, 5) if not first_breach(recut, other, loose, rules, version)[0]][:1]
            self.assertEqual([verdict.version] if verdict.version else [], first)
            self.assertIs(bool(verdict), breach is None)

    def test_an_empty_row_keeps_all_rules(self):
        plan = example_plan()
        verdict = RecutRules(recut_of("0a0 0b0 0c0", "0"), plan, cue_plan(), BOOK, Rules(short=200, gap=200, again=200, long=1))
        self.assertEqual(verdict.table, (("a", 0, None), ("b", 0, None), ("c", 0, None)))
        verdict = RecutRules(recut_of("0a0 0b0 0c0", "0x"), plan, cue_plan(), BOOK, Rules(short=200))
        self.assertEqual((verdict.version, verdict.breach), (("a", "b"), (0, "short")))

    def test_none_in_the_place_of_a_breach(self):
        plan = example_plan()
        other = cue_plan()
        for entries, tails in (
            ("0a0 0c0", "0"), ("0a0 0b0 0c0", ""), ("0a0 0b0 0c0", "1"), ("0a0w 0b0 0c0", "0"), ("0a0 0b0 0c0", "0w"), ("0a0x 0b0 0c0", "0w"),
            ("", "0"), ("0a0xyxyx 0b0w 0c0", "0"),
        ):
            verdict = RecutRules(recut_of(entries, tails), plan, other, BOOK, Rules(short=1))
            self.assertEqual((verdict.version, verdict.breach, bool(verdict)), (("a", "b"), None, False))
        # A breach ahead of it does not count where no row is made.
        verdict = RecutRules(recut_of("0a0x 0b0w 0c0x", "0"), plan, other, BOOK, Rules(short=3))
        self.assertEqual((verdict.version, verdict.breach), (("a", "b"), None))
        # Stuck on a greater version: the least one has a breach.
        verdict = RecutRules(recut_of("0a0x 0b0", "0"), plan, other, BOOK, Rules(short=3))
        self.assertEqual((verdict.version, verdict.breach), (("a", "b"), (0, "short")))
        verdict = RecutRules(recut_of("0a0x 0b0", "0"), plan, other, BOOK, Rules(short=2))
        self.assertEqual((verdict.version, verdict.breach), (("a", "c", "a", "b"), None))

    def test_how_many(self):
        # The time since the only cue counts, up to the horizon; another tick with each v.
        plan = Plan(Reel(5), (("a", 0, 1, 1, 1, "on"), ("b", 0, 1, 1, 1, "on")), (("a", "b"), ("b", "b")), ("a",), ("b",))
        reel = Reel(5, ((0, 1, "ann", "x"),))
        other = Plan(reel, (("x", 0, 1, 1, 1, "on"), ("v", 2, 3, 1, 1, "on")), (), ("x", "v"), ("x", "v"))
        recut = recut_of("0a0x 0b1v 1b2v 2b0v 1a1 2a2", "0 1 2")
        # The gaps 0 to 200 and one more.
        self.assertEqual(len(RecutRules(recut_of("0a0x 0b0v", "0"), plan, other, Book(0, 0), Rules(gap=200))), 202)
        for gap in (130, 200):
            verdict = RecutRules(recut, plan, other, Book(0, 0), Rules(gap=gap))
            self.assertEqual(len(verdict), len(all_standings(recut, plan, other, Book(0, 0), Rules(gap=gap), 400)))
        slow = Plan(reel, (("x", 0, 1, 1, 1, "on"), ("v", 2, 3, 1, 2, "on")), (), ("x", "v"), ("x", "v"))
        one = recut_of("0a0x 0b0v", "0")
        # With two grains to a tick: x, and the gaps 1 to 2 * gap + 1.
        self.assertEqual(len(RecutRules(one, plan, slow, Book(0, 0), Rules(gap=199))), 400)
        self.fails(TooMany, "standing", RecutRules, one, plan, slow, Book(0, 0), Rules(gap=200))
        # Whether or not all is kept.
        self.fails(TooMany, "standing", RecutRules, one, plan, slow, Book(0, 0), Rules(gap=200, short=2))
        verdict = RecutRules(one, plan, slow, Book(0, 0), Rules(gap=199, short=2))
        self.assertEqual((verdict.version, verdict.breach), (("a", "b"), (0, "short")))
        # Stuck at the end of each version: a tail does not matter to the standings.
        self.fails(TooMany, "standing", RecutRules, recut_of("0a0x 0b0v", ""), plan, slow, Book(0, 0), Rules(gap=200))
        self.assertEqual(RecutRules(recut_of("0a0x 0b0v", ""), plan, slow, Book(0, 0), Rules(gap=199)).version, ("a", "b"))
        # Ways on which an entry lacks, or another name is put out, have no standings.
        self.assertEqual(RecutRules(recut_of("0a0x 0b1v", "0"), plan, slow, Book(0, 0), Rules(gap=200)).version, ("a", "b"))
        self.assertEqual(RecutRules(recut_of("0a0x 0b1w 1b1v", "1"), plan, slow, Book(0, 0), Rules(gap=200)).breach, None)

    def test_one_standing_more(self):
        reel = Reel(5, ((0, 1, "ann", "x"),))
        slow = Plan(reel, (("x", 0, 1, 1, 1, "on"), ("v", 2, 3, 1, 2, "on")), (), ("x", "v"), ("x", "v"))
        pieces = [(name, 0, 1, 1, 1, "on") for name in "abc"]
        plan = Plan(Reel(5), pieces, (("a", "b"), ("b", "b")), ("a", "c"), ("b", "c"))
        self.fails(TooMany, "standing", RecutRules, recut_of("0a0x 0b0v 0c0", "0"), plan, slow, Book(0, 0), Rules(gap=199))
        self.assertIsNone(RecutRules(recut_of("0a0x 0b0v", "0"), plan, slow, Book(0, 0), Rules(gap=199)).breach)
        self.assertEqual(RecutRules(recut_of("0a0x 0b0v", "0"), plan, slow, Book(0, 0), Rules(gap=199)).version, ("c",))

    def test_against_all_versions(self):
        dice = random.Random(451)
        seen = {}
        plans = turned(random_plans(451, 500, 3) + rich_plans(452, 300, 3))
        for plan in plans:
            other = dice.choice(plans)
            book, rules = Book(dice.randint(0, 2), dice.randint(0, 3)), gentle_rules(dice)
            recut = made_recut(dice, plan, other)
            told = all_standings(recut, plan, other, book, rules, 400)
            if len(told) > 400:
                self.fails(TooMany, "standing", RecutRules, recut, plan, other, book, rules)
                seen["many"] = True
                continue
            verdict = RecutRules(recut, plan, other, book, rules)
            wrong = [version for version in versions(plan, 6) if not first_breach(recut, other, book, rules, version)[0]]
            if wrong:
                self.assertEqual(verdict.version, wrong[0])
                self.assertEqual(verdict.breach, first_breach(recut, other, book, rules, wrong[0])[1])
                self.assertIsNone(verdict.table)
                seen["breach" if verdict.breach else "none"] = True
            elif verdict.version is None:
                self.assertEqual(verdict.table, tuple(told))
                self.assertIsNone(judge_recut(recut, plan, other, book, rules, verdict.table))
                self.assertIs(bool(verdict), True)
                seen[True] = True
            else:
                self.assertGreater(len(verdict.version), 6)
                self.assertEqual(first_breach(recut, other, book, rules, verdict.version), (False, verdict.breach))
                seen["late"] = True
        self.assertLessEqual({"breach", "none", True, "late"}, set(seen))


class JudgeTest(Case):
    RULES = Rules(gap=2)

    def judged(self, recut, table, rules=RULES):
        plan = example_plan()
        told = judge_recut(recut, plan, plan, BOOK, rules, table)
        if isinstance(table, tuple):
            self.assertEqual(told, slowly_judged(recut, plan, plan, BOOK, rules, table))
        return told

    def test_the_table_itself(self):
        plan = example_plan()
        same = Recut.same(plan.names)
        table = RecutRules(same, plan, plan, BOOK, self.RULES).table
        self.assertEqual(table, (
            ("a", 0, ("a", None, (1, 5, 0), ())), ("b", 0, ("b", None, (2, 5, 0), ())), ("c", 0, ("c", None, (1, 5, 0), ())),
        ))
        self.assertIsNone(self.judged(same, table))
        self.assertIsNone(self.judged(same, [[name, state, [row[0], None, list(row[2]), []]] for name, state, row in table]))
        self.assertIsNone(self.judged(same, table[::-1]))
        self.assertIsNone(self.judged(same, table * 2))
        for number, told in ((0, -1), (1, 0), (2, 0)):
            self.assertEqual(self.judged(same, table[:number] + table[number + 1:]), told)
        for thing in ((), None, 5, "abc", {}, True):
            self.assertEqual(self.judged(same, thing), -1)
        # The rules that are broken on the way to a start, behind it, and by ending.
        self.assertEqual(self.judged(same, table, Rules(gap=3)), -1)
        self.assertIsNone(judge_standings(plan, BOOK, self.RULES, tuple(row for _, _, row in table)))

    def test_each_part_changed(self):
        plan = example_plan()
        same = Recut.same(plan.names)
        rules = Rules(gap=2, again=4)
        table = RecutRules(same, plan, plan, BOOK, rules).table
        seen = set()
        for number, (name, state, shown) in enumerate(table):
            rows = [(one, state, shown) for one in "abc"] + [(name, k, shown) for k in (0, 1, 35)] + [(name, state, None)]
            rows += [(name, state, (one,) + shown[1:]) for one in "abc"]
            rows += [(name, state, shown[:1] + ((cue, 1),) + shown[2:]) for cue in range(3)]
            rows += [(name, state, shown[:2] + (carrying,) + shown[3:]) for carrying in (None, (0, 5, 0), (1, 5, 0), (1, 5, 5), (2, 21, 21))]
            rows += [(name, state, shown[:3] + (ages,)) for ages in ((), ((0, 3),), ((0, 19),), ((2, 0),))]
            for row in rows:
                told = self.judged(same, table[:number] + (row,) + table[number + 1:], rules)
                seen.add(told)
                self.judged(same, table + (row,), rules)
        self.assertEqual(seen, {None, -1, 0})

    def test_without_the_form(self):
        plan = example_plan()
        same = Recut.same(plan.names)
        table = RecutRules(same, plan, plan, BOOK, self.RULES).table
        shown = table[1][2]
        for row in (
            None, 5, "b0x", (), ("b",), ("b", 0), ("b", 0, shown, 0), ("d", 0, shown), (None, 0, shown), (["b"], 0, shown),
            ("b", -1, shown), ("b", 36, shown), ("b", False, shown), ("b", None, shown), ("b", "0", shown), ("b", 0, 5),
            ("b", 0, ()), ("b", 0, "b"), ("b", 0, shown[:3]), ("b", 0, ("d",) + shown[1:]), ("b", 0, ("b", (1, 2), None, ())),
            ("b", 0, ("b", None, (3, 5, 0), ())), ("b", 0, ("b", None, (2, 6, 0), ())), ("b", 0, ("b", None, (2, 5, 6), ())),
            ("b", 0, ("b", None, (2, True, 0), ())), ("b", 0, ("b", None, (2, 5, False), ())), ("b", 0, ("b", None, None, ((0, 0),))),
            ("b", 0, ("b", None, (2, 5, 0), ((0, 0),))), ("b", 0, ("b", None, (2, 5, 0), None)), {}, ("b", 0, ("b", (True, 1), None, ())),
        ):
            self.assertEqual(self.judged(same, table + (row,)), 3, row)
            self.assertEqual(self.judged(same, (row,) + table), 0, row)
            self.assertEqual(self.judged(same, (row,) + table[1:]), -1, row)

    def test_entries_and_tails_that_lack(self):
        plan = example_plan()
        entries = Recut.same(plan.names).entries
        table = RecutRules(Recut.same(plan.names), plan, plan, BOOK, self.RULES).table
        for number, told in ((0, -1), (1, 0), (2, 0)):
            self.assertEqual(self.judged(Recut(entries[:number] + entries[number + 1:], ((0, ()),)), table), told)
        self.assertEqual(self.judged(Recut(entries, ()), table), 1)
        self.assertEqual(self.judged(Recut(entries, ((0, ("w",)),)), table), 1)
        self.assertEqual(self.judged(Recut(entries[:2] + ((0, "c", 0, ("c", "w")),), ((0, ()),)), table), 0)
        self.assertIsNone(self.judged(Recut(entries, ((0, ("b",)),)), table))
        # Cue 2 is on the screen at the end of b; in another b it comes again two ticks later.
        table = RecutRules(Recut.same(plan.names), plan, plan, BOOK, Rules(again=3)).table
        self.assertIsNone(self.judged(Recut(entries, ((0, ()),)), table, Rules(again=3)))
        self.assertEqual(self.judged(Recut(entries, ((0, ("b",)),)), table, Rules(again=3)), [row[0] for row in table].index("b"))

    def test_rows_that_are_never_reached(self):
        plan = example_plan()
        same = Recut.same(plan.names)
        table = RecutRules(same, plan, plan, BOOK, self.RULES).table
        self.assertIsNone(self.judged(same, table + (("b", 0, None),)))
        self.assertIsNone(self.judged(same, table + (("a", 0, None),)))
        self.assertIsNone(self.judged(same, table + (("c", 0, ("b", None, (2, 5, 0), ())),)))
        self.assertEqual(self.judged(same, table + (("b", 1, None),)), 3)

    def test_against_the_words(self):
        dice = random.Random(455)
        seen = set()
        plans = turned(random_plans(455, 300, 3) + rich_plans(456, 100, 3))
        for plan in plans:
            other = dice.choice(plans)
            book, rules = Book(dice.randint(0, 2), dice.randint(0, 3)), gentle_rules(dice)
            recut = made_recut(dice, plan, other)
            table = tuple(all_standings(recut, plan, other, book, rules, 60))
            if len(table) > 60 or not table:
                continue
            for _ in range(3):
                rows = [row for row in table if dice.random() < 0.97]
                rows += [dice.choice(rows) for _ in range(dice.randint(0, 2)) if rows]
                if rows and dice.random() < 0.5:
                    at = dice.randrange(len(rows))
                    name, state, shown = rows[at]
                    rows[at] = dice.choice((
                        (dice.choice(plan.names), state, shown), (name, dice.randint(0, 2), shown), (name, state, None),
                        (name, state, dice.choice(table)[2]),
                    ))
                dice.shuffle(rows)
                told = judge_recut(recut, plan, other, book, rules, tuple(rows))
                self.assertEqual(told, slowly_judged(recut, plan, other, book, rules, tuple(rows)))
                seen.add(told if told in (None, -1) else 0)
        self.assertEqual(seen, {None, -1, 0})
