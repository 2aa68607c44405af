"""[44]: pairs of re-cuts."""

import random

from seamfast.errors import Stuck, TooMany
from seamfast.recutpairs import RecutPair, judge_pair
from seamfast.recuts import Recut
from seamfast.ways import versions, ways
from tests.samples import Case, example_plan, random_plans, turned
from tests.test_carries import lettered_plan, recut_of
from tests.test_recuts import random_recut

BOTH_EVEN = (0, ())


def put_out(recut, way):
    """The state behind a way and all names put out; None if an entry lacks."""
    state, out = 0, ()
    for name in way:
        found = [entry for entry in recut.entries if entry[:2] == (state, name)]
        if not found:
            return None
        state, out = found[0][2], out + found[0][3]
    return state, out


def beyond(out, other):
    """What one tuple has beyond the other; None if neither begins with the other."""
    if out[:len(other)] == other:
        return 0, out[len(other):]
    return (1, other[len(out):]) if other[:len(out)] == out else None


def slow_standing(first, second, way):
    """The standing of a way."""
    state, out = put_out(first, way)
    other, other_out = put_out(second, way)
    return way[-1], state, other, beyond(out, other_out)


def slowly_judged(plan, first, second, table):
    """What judge_pair tells of a tuple, in the words of [44]."""
    def number(thing, most):
        return isinstance(thing, int) and not isinstance(thing, bool) and 0 <= thing <= most

    def formed(row):
        if not isinstance(row, tuple) or len(row) != 4 or row[0] not in plan.names:
            return False
        if not number(row[1], 35) or not number(row[2], 35) or not isinstance(row[3], tuple) or len(row[3]) != 2:
            return False
        side, names = row[3]
        if not number(side, 1) or not isinstance(names, tuple) or (side == 1 and not names):
            return False
        return all(isinstance(name, str) and name.isalpha() and name.islower() and len(name) <= 8 for name in names)

    def step(recut, state, name):
        return next((entry for entry in recut.entries if entry[:2] == (state, name)), None)

    def behind(row, name):
        one, two = step(first, row[1], name), step(second, row[2], name)
        if one is None or two is None:
            return None
        outs = [(), ()]
        outs[row[3][0]] = row[3][1]
        return name, one[2], two[2], beyond(outs[0] + one[3], outs[1] + two[3])

    good = [row for row in table if formed(row)]
    for name in plan.starts:
        if behind((None, 0, 0, BOTH_EVEN), name) not in good:
            return -1
    for at, row in enumerate(table):
        if not formed(row):
            return at
        if row[0] in plan.ends:
            tails = [dict(first.tails).get(row[1]), dict(second.tails).get(row[2])]
            outs = [(), ()]
            outs[row[3][0]] = row[3][1]
            if None in tails or outs[0] + tails[0] != outs[1] + tails[1]:
                return at
        for name in plan.followers(row[0]):
            if behind(row, name) not in good:
                return at
    return None


def ring(many):
    """A re-cut that counts the pieces a up to so many, and begins anew."""
    entries = [(k, "a", (k + 1) % many, ("x",)) for k in range(many)] + [(k, "b", k, ()) for k in range(many)]
    return Recut(entries, [(k, ()) for k in range(many)])


def plan_ways(plan, both, most):
    """Ways of at most so many pieces, one for each standing."""
    level = {slow_standing(*both, (name,)): (name,) for name in plan.starts}
    known = dict(level)
    for _ in range(most - 1):
        longer = [way + (name,) for way in level.values() for name in plan.followers(way[-1])]
        level = {slow_standing(*both, way): way for way in longer}
        level = {standing: way for standing, way in level.items() if standing not in known}
        known.update(level)
    return list(known.values())


def random_pair(dice, plan):
    """Two re-cuts that are not stuck on versions, often alike."""
    names = {name: tuple(dice.choice("xy") for _ in range(dice.choice((0, 1, 1, 2)))) for name in plan.names}

    def made(keep):
        """Puts out what is due only when more than so many names are due."""
        states = {(): 0}
        entries = []
        waiting = [()]
        for held in waiting:
            for name in plan.names:
                due = held + names[name]
                left = due[len(due) - min(keep, len(due)):]
                if left not in states:
                    states[left] = len(states)
                    waiting.append(left)
                entries.append((states[held], name, states[left], due[:len(due) - len(left)]))
        return Recut(entries, [(state, held) for held, state in states.items()])

    first, second = made(dice.randint(0, 2)), made(dice.randint(0, 2))
    if dice.random() < 0.4:
        entries = list(second.entries)
        at = dice.randrange(len(entries))
        state, name, behind, out = entries[at]
        entries[at] = (state, name, behind, dice.choice((out + ("x",), out[1:], ("y",) + out[1:])))
        second = Recut(entries, second.tails)
    return (first, second) if dice.random() < 0.5 else (second, first)


class StuckTest(Case):
    def test_the_first_goes_ahead(self):
        plan = lettered_plan("ab ac ba ca", "a", "bc")
        whole = Recut.same("abc")
        for stuck, version in (
            (recut_of("0a0 0c0", "0"), ("a", "b")), (recut_of("0a0 0b0", "0"), ("a", "c")), (recut_of("0a0 0b0 0c0", ""), ("a", "b")),
            (recut_of("0a1 1b1 1c2 1a1 2a1", "1"), ("a", "c")), (recut_of("0a1 1b1 1c2 1a1", "1 2"), ("a", "c", "a", "b")),
            (recut_of("0a1 1b1 1c2 1a1 2a3 3b4 3c4", "1 2"), ("a", "c", "a", "b")), (Recut((), ()), ("a", "b")),
        ):
            self.fails(Stuck, (version,), RecutPair, plan, stuck, whole)
            self.fails(Stuck, (version,), RecutPair, plan, whole, stuck)
            self.fails(Stuck, (version,), RecutPair, plan, stuck, stuck)
        left, right = recut_of("0a0 0b0", "0"), recut_of("0a0 0c0", "0")
        # The first one is stuck on a greater version than the second one.
        self.fails(Stuck, (("a", "c"),), RecutPair, plan, left, right)
        self.fails(Stuck, (("a", "b"),), RecutPair, plan, right, left)

    def test_ahead_of_too_many(self):
        plan = lettered_plan("aa ab", "a", "b")
        self.fails(TooMany, "standing", RecutPair, plan, ring(6), ring(35))
        self.fails(Stuck, (("a", "a", "b"),), RecutPair, plan, ring(6), Recut(ring(35).entries, [(1, ())]))

    def test_against_all_versions(self):
        dice = random.Random(441)
        seen = set()
        for plan in turned(random_plans(441, 300, 3)):
            first, second = [random_recut(dice, plan.names, "xy", 2, dice.choice((0.9, 1))) for _ in range(2)]
            stuck = [[version for version in versions(plan, 8) if recut(version) is None][:1] for recut in (first, second)]
            if stuck[0] or stuck[1]:
                self.fails(Stuck, ((stuck[0] or stuck[1])[0],), RecutPair, plan, first, second)
            seen.add((bool(stuck[0]), bool(stuck[1])))
        self.assertEqual(len(seen), 4)


class PairTest(Case):
    def test_same(self):
        plan = example_plan()
        same = Recut.same(plan.names)
        verdict = RecutPair(plan, same, same)
        self.assertIs(bool(verdict), True)
        self.assertIsNone(verdict.version)
        self.assertEqual(verdict.table, tuple((name, 0, 0, BOTH_EVEN) for name in "abc"))
        self.assertEqual((len(verdict), list(verdict)), (3, list(verdict.table)))

    def test_one_puts_out_later(self):
        plan = lettered_plan("ab ba", "a", "b")
        soon, late = recut_of("0a0x 0b0yz", "0"), recut_of("0a1 1b0xyz", "0")
        verdict = RecutPair(plan, soon, late)
        self.assertEqual(verdict.table, (("a", 0, 1, (0, ("x",))), ("b", 0, 0, BOTH_EVEN)))
        verdict = RecutPair(plan, late, soon)
        self.assertEqual(verdict.table, (("a", 1, 0, (1, ("x",))), ("b", 0, 0, BOTH_EVEN)))
        # First one of them is ahead, then the other one.
        one, other = recut_of("0a1xyx 1b2 2a3 3b2yxy", "2z"), recut_of("0a1x 1b2yx 2a3yx 3b2y", "2z")
        self.assertEqual(RecutPair(plan, one, other).table, (
            ("a", 1, 1, (0, ("y", "x"))), ("b", 2, 2, BOTH_EVEN), ("a", 3, 3, (1, ("y", "x"))),
        ))
        # At last only the tails make the same.
        one, other = recut_of("0a1x 1b0 2a1", "0yz"), recut_of("0a1 1b2xy 2a1zx", "2z")
        self.assertEqual(RecutPair(plan, one, other).version, ("a", "b", "a", "b"))
        one, other = recut_of("0a1x 1b2 2a1yz", "2yzx"), recut_of("0a1 1b2xyz 2a1", "2x")
        self.assertIs(bool(RecutPair(plan, one, other)), False)
        one, other = recut_of("0a1x 1b2 2a1yx", "2y"), recut_of("0a1 1b2xy 2a1", "2")
        self.assertEqual(RecutPair(plan, one, other).table, (("a", 1, 1, (0, ("x",))), ("b", 2, 2, (1, ("y",)))))

    def test_the_least_version_of_those_that_are_not(self):
        plan = lettered_plan("ab ac ba ca", "a", "bc")
        same = Recut.same("abc")
        for entries, tails, version in (
            ("0a0a 0b0b 0c0b", "0", ("a", "c")), ("0a0a 0b0b 0c0c", "0a", ("a", "b")), ("0a0a 0b0c 0c0b", "0", ("a", "b")),
            ("0a1a 1b1b 1c2c 1a1a 2a3a 3b3b 3c3a 3a3a", "1 2 3", ("a", "c", "a", "c")), ("0a0 0b0ab 0c0ac", "0", None),
        ):
            recut = recut_of(entries, tails)
            for verdict in (RecutPair(plan, same, recut), RecutPair(plan, recut, same)):
                self.assertEqual(verdict.version, version)
                self.assertEqual((bool(verdict), verdict.table is None), (version is None, version is not None))
                if version is not None:
                    self.assertEqual((len(verdict), list(verdict)), (0, []))

    def test_standings_with_none(self):
        plan = lettered_plan("ab bb bc", "a", "c")
        # They part in a, but no version ends before c: the standing stays None whatever follows.
        verdict = RecutPair(plan, recut_of("0a0x 0b0 0c0", "0"), recut_of("0a0y 0b0 0c0", "0"))
        self.assertEqual(verdict.version, ("a", "b", "c"))
        verdict = RecutPair(plan, recut_of("0a0x 0b0 0c0y", "0"), recut_of("0a0y 0b0 0c0x", "0"))
        self.assertEqual(verdict.version, ("a", "b", "c"))

    def test_how_many(self):
        plan = lettered_plan("aa ab", "a", "b")
        # All pairs of states are come to, each with a and with b.
        self.assertEqual(len(RecutPair(plan, ring(8), ring(25))), 400)
        self.assertEqual(len(RecutPair(plan, ring(1), ring(36))), 72)
        self.fails(TooMany, "standing", RecutPair, plan, ring(6), ring(35))
        # One standing more: c with the states 0 and 0.
        extra = lettered_plan("aa ab cc", "ac", "bc")
        both = [Recut(recut.entries + ((0, "c", 0, ()),), recut.tails) for recut in (ring(8), ring(25))]
        self.fails(TooMany, "standing", RecutPair, extra, *both)
        both = [Recut(recut.entries + ((0, "c", 0, ()),), recut.tails) for recut in (ring(7), ring(25))]
        self.assertEqual(len(RecutPair(extra, *both)), 351)

    def test_one_is_ever_farther_ahead(self):
        plan = lettered_plan("ab bb bc", "a", "c")
        ever, never = recut_of("0a0x 0b0x 0c0", "0"), recut_of("0a0 0b0 0c0", "0")
        self.assertEqual(RecutPair(plan, ever, never).version, ("a", "b", "c"))
        self.assertEqual(RecutPair(plan, never, ever).version, ("a", "b", "c"))

    def test_how_many_where_they_are_not_alike(self):
        # The first one counts a and c, the second one b and c; d is put out in another way behind nine of the first.
        alike = [(0, "e", 0, ()), (0, "f", 0, ())]
        first = alike + [(k, name, (k + (name in "ac")) % 30, ()) for k in range(30) for name in "abc"]
        first += [(k, "d", k, ("z",) if k == 9 else ("y",)) for k in range(30)]
        second = alike + [(k, name, (k + (name in "bc")) % 30, ()) for k in range(30) for name in "abc"]
        second += [(k, "d", k, ("y",)) for k in range(30)]
        tails = [(k, ()) for k in range(30)]
        both = [Recut(entries, tails) for entries in (first, second)]
        # Ways of at most ten pieces come to 399 standings, the pieces that stand alone to one each.
        arrows = " ".join(left + right for left in "abc" for right in "abcd")
        for alone, many in (("", 399), ("e", 400), ("ef", 401)):
            plan = lettered_plan(arrows, "abc" + alone, "d" + alone)
            self.assertEqual(len({slow_standing(*both, way) for way in plan_ways(plan, both, 10)}), many)
            if many > 400:
                self.fails(TooMany, "standing", RecutPair, plan, *both)
            else:
                self.assertEqual(RecutPair(plan, *both).version, ("a",) * 9 + ("d",))

    def test_against_level_by_level(self):
        dice = random.Random(446)
        seen = set()
        for _ in range(30):
            names = "abcdefghijkl"
            arrows = {(left, right) for left in names[:11] for right in names[:11] if dice.random() < 0.5}
            arrows |= set(zip(names, names[1:]))
            plan = lettered_plan(" ".join(left + right for left, right in sorted(arrows)), "a", "l")
            both = []
            share = dice.choice((0, 0, 0.02))
            for size in dice.choice(((8, 8), (3, 8), (7, 2))):
                entries = []
                for name in names[:11]:
                    entries += [(k, name, behind, ("x",)) for k, behind in enumerate(dice.sample(range(size), size))]
                entries += [(k, "l", k, ("z",) if dice.random() < share else ("y",)) for k in range(size)]
                both.append(Recut(entries, [(k, ()) for k in range(size)]))
            level = {slow_standing(*both, ("a",)): ("a",)}
            known = dict(level)
            found = None
            while level and len(known) <= 400:
                ending = [way for standing, way in level.items() if standing[0] == "l" and standing[3] != BOTH_EVEN]
                if ending:
                    found = min(ending)
                    break
                behind = {}
                for way in level.values():
                    for name in plan.followers(way[-1]):
                        standing = slow_standing(*both, way + (name,))
                        if standing not in known and standing not in behind:
                            behind[standing] = way + (name,)
                level = behind
                known.update(level)
            if len(known) > 400:
                self.fails(TooMany, "standing", RecutPair, plan, *both)
                seen.add("many")
            else:
                verdict = RecutPair(plan, *both)
                self.assertEqual(verdict.version, found)
                if found is None:
                    self.assertEqual(verdict.table, tuple(known))
                seen.add(found is None)
        self.assertEqual(seen, {"many", True, False})

    def test_against_all_versions(self):
        dice = random.Random(443)
        seen = {True: 0, False: 0}
        for plan in turned(random_plans(443, 500, 3)):
            first, second = random_pair(dice, plan)
            other = [version for version in versions(plan, 7) if first(version) != second(version)]
            try:
                verdict = RecutPair(plan, first, second)
            except TooMany:
                seen["many"] = True
                continue
            if other:
                self.assertEqual(verdict.version, other[0])
            elif verdict.version is None:
                found = {}
                for way in ways(plan, 7):
                    found[slow_standing(first, second, way)] = True
                self.assertEqual(verdict.table[:len(found)], tuple(found))
                self.assertIsNone(judge_pair(plan, first, second, verdict.table))
            else:
                self.assertGreater(len(verdict.version), 7)
                self.assertNotEqual(first(verdict.version), second(verdict.version))
            seen[bool(verdict)] += 1
        self.assertGreater(min(seen.values()), 60)


class JudgeTest(Case):
    PLAN = lettered_plan("ab ba", "a", "b")
    FIRST = recut_of("0a1xyx 1b2 2a3 3b2yxy", "2z")
    SECOND = recut_of("0a1x 1b2yx 2a3yx 3b2y", "2z")
    TABLE = (("a", 1, 1, (0, ("y", "x"))), ("b", 2, 2, BOTH_EVEN), ("a", 3, 3, (1, ("y", "x"))))

    def judged(self, table):
        told = judge_pair(self.PLAN, self.FIRST, self.SECOND, table)
        if isinstance(table, tuple):
            self.assertEqual(told, slowly_judged(self.PLAN, self.FIRST, self.SECOND, table))
        return told

    def test_the_table_itself(self):
        self.assertEqual(RecutPair(self.PLAN, self.FIRST, self.SECOND).table, self.TABLE)
        self.assertIsNone(self.judged(self.TABLE))
        self.assertIsNone(self.judged([[name, one, two, [side, list(names)]] for name, one, two, (side, names) in self.TABLE]))
        self.assertIsNone(self.judged(self.TABLE[::-1]))
        self.assertIsNone(self.judged(self.TABLE * 2))

    def test_rows_left_out(self):
        self.assertEqual(self.judged(self.TABLE[1:]), -1)
        self.assertEqual(self.judged(self.TABLE[:1] + self.TABLE[2:]), 0)
        self.assertEqual(self.judged(self.TABLE[:2]), 1)
        for table in ((), None, 5, "abc", {}, True):
            self.assertEqual(self.judged(table), -1)

    def test_each_part_changed(self):
        seen = set()
        for number, (name, state, other, (side, names)) in enumerate(self.TABLE):
            rows = [(name, state, other, (1 - side, names)), (name, state, other, (side, names + ("x",)))]
            rows += [(name, state, other, (side, names[1:])), (name, state, other, (side, names[::-1])), (name, state, other, (1, ("y",)))]
            rows += [(name, state, other, (side, names[:-1] + ("z",))), (name, state, other, None), (name, state, other, BOTH_EVEN)]
            rows += [(name, k, other, (side, names)) for k in range(5)] + [(name, state, k, (side, names)) for k in range(5)]
            rows += [(one, state, other, (side, names)) for one in "ab"]
            for row in rows:
                table = self.TABLE[:number] + (row,) + self.TABLE[number + 1:]
                told = self.judged(table)
                self.assertEqual(told is None, row == self.TABLE[number])
                seen.add(told)
                self.judged(self.TABLE + (row,))
        self.assertEqual(seen, {None, -1, 0, 1})

    def test_without_the_form(self):
        ahead = (0, ("y", "x"))
        for row in (
            None, 5, "a11x", (), ("a", 1, 1), ("a", 1, 1, ahead, 0), ("d", 1, 1, ahead), (None, 1, 1, ahead), (["a"], 1, 1, ahead),
            ("a", -1, 1, ahead), ("a", 36, 1, ahead), ("a", True, 1, ahead), ("a", 1, -1, ahead), ("a", 1, 36, ahead),
            ("a", 1, True, ahead), ("a", None, 1, ahead), ("a", 1, 1.0, ahead), ("a", 1, 1, None), ("a", 1, 1, 5), ("a", 1, 1, ()),
            ("a", 1, 1, (0,)), ("a", 1, 1, (2, ("x",))), ("a", 1, 1, (-1, ("x",))), ("a", 1, 1, (True, ("x",))),
            ("a", 1, 1, (False, ("y", "x"))), ("a", 1, 1, (1, ())), ("a", 1, 1, (0, None)), ("a", 1, 1, (0, "yx")),
            ("a", 1, 1, (0, ("y", ""))), ("a", 1, 1, (0, ("y", 5))), ("a", 1, 1, (0, ("y", "X"))), {}, ("a", 1, 1, ahead + ahead),
            ("a", 1, 1, (None, ("x",))), ("a", 1, 1, (0, ("y", ("x",)))),
        ):
            self.assertEqual(self.judged(self.TABLE + (row,)), 3, row)
            self.assertEqual(self.judged((row,) + self.TABLE), 0, row)
            self.assertEqual(self.judged((row,) + self.TABLE[1:]), -1, row)

    def test_a_row_without_the_form_goes_ahead_of_the_one_behind(self):
        silent = recut_of("0a0 0b0", "0")
        good = (("a", 0, 0, BOTH_EVEN), ("b", 0, 0, BOTH_EVEN))
        for ahead, behind in (((0, ("X",)), (0, ("X",))), ((2, ("x",)), (1, ("x",))), ((-1, ("x",)), (1, ("x",))), ((0, ("x",)),) * 2):
            table = good + (("a", 0, 0, ahead), ("b", 0, 0, behind))
            told = 3 if ahead == (0, ("x",)) else 2
            self.assertEqual(judge_pair(self.PLAN, silent, silent, table), told)

    def test_rows_that_are_never_reached(self):
        # Names of no plan may be ahead, too.
        self.assertEqual(self.judged(self.TABLE + (("a", 1, 1, (0, ("w",))),)), 3)
        self.assertEqual(self.judged(self.TABLE + (("a", 1, 1, (1, ("x",))),)), 3)
        self.assertEqual(self.judged(self.TABLE + (("b", 1, 1, (1, ("x",))),)), 3)
        self.assertEqual(self.judged(self.TABLE + (("a", 0, 1, (0, ("y", "x"))),)), 3)
        more = [recut + Recut.same("xyz") for recut in (self.FIRST, self.SECOND)]
        more = [Recut(recut.entries + ((5, "a", 5, ("q",)), (5, "b", 5, ())), recut.tails + ((5, ()),)) for recut in more]
        table = self.TABLE + (("a", 5, 5, BOTH_EVEN), ("b", 5, 5, BOTH_EVEN))
        self.assertIsNone(judge_pair(self.PLAN, *more, table))
        self.assertEqual(judge_pair(self.PLAN, *more, table[:-1]), 3)

    def test_no_errors(self):
        stuck = recut_of("0a0", "")
        self.assertEqual(judge_pair(self.PLAN, stuck, stuck, ()), -1)
        self.assertEqual(judge_pair(self.PLAN, stuck, stuck, (("a", 0, 0, BOTH_EVEN),)), 0)
        self.assertEqual(judge_pair(self.PLAN, Recut((), ()), stuck, (("a", 0, 0, BOTH_EVEN),)), -1)
        whole = recut_of("0a0 0b0", "")
        self.assertEqual(judge_pair(self.PLAN, whole, whole, (("a", 0, 0, BOTH_EVEN), ("b", 0, 0, BOTH_EVEN))), 1)

    def test_against_the_words(self):
        dice = random.Random(445)
        seen = set()
        for plan in turned(random_plans(445, 300, 3)):
            first, second = random_pair(dice, plan)
            try:
                table = RecutPair(plan, first, second).table
            except TooMany:
                continue
            if table is None:
                found = {slow_standing(first, second, way): True for way in ways(plan, 4)}
                table = tuple(row for row in found if row[3] is not None)
            for _ in range(4):
                rows = [row for row in table if dice.random() < 0.95]
                rows += [dice.choice(rows) for _ in range(dice.randint(0, 2)) if rows]
                if rows and dice.random() < 0.5:
                    at = dice.randrange(len(rows))
                    name, one, two, ahead = rows[at]
                    rows[at] = dice.choice((
                        (dice.choice(plan.names), one, two, ahead), (name, dice.randint(0, 2), two, ahead),
                        (name, one, dice.randint(0, 2), ahead), (name, one, two, (dice.randint(0, 1), ahead[1] + ("x",))),
                    ))
                dice.shuffle(rows)
                told = judge_pair(plan, first, second, tuple(rows))
                self.assertEqual(told, slowly_judged(plan, first, second, tuple(rows)))
                seen.add(told if told in (None, -1) else 0)
        self.assertEqual(seen, {None, -1, 0})
