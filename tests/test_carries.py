"""[43]: what carries a plan to another plan."""

import random

from seamfast.carries import Carries, judge_carries
from seamfast.plans import Plan
from seamfast.recuts import Recut
from seamfast.reels import Reel
from seamfast.ways import is_version, versions, ways
from tests.samples import Case, example_plan, random_plans, turned
from tests.test_recuts import random_recut
from tests.test_windows import silent_plan


def lettered_plan(arrows, starts, ends):
    """A plan without cues of the pieces that stand in the arrows, the starts and the ends."""
    arrows = [tuple(arrow) for arrow in arrows.split()]
    names = sorted({name for arrow in arrows for name in arrow} | set(starts) | set(ends))
    pieces = [(name, 0, 1, 1, 1, "on") for name in names]
    return Plan(Reel(5), pieces, arrows, tuple(starts), tuple(ends))


def entries_of(text):
    """Entries written as words `0a1xy`: a state, a name, the state behind, the names put out."""
    return [(int(word[0]), word[1], int(word[2]), tuple(word[3:])) for word in text.split()]


def tails_of(text):
    """Tails written as words `0xy`."""
    return [(int(word[0]), tuple(word[1:])) for word in text.split()]


def recut_of(entries, tails):
    """A re-cut from words."""
    return Recut(entries_of(entries), tails_of(tails))


def is_carried(recut, other, version):
    """Whether a version is made a version of the other plan."""
    made = recut(version)
    if not made or any(name not in other.names for name in made):
        return False
    return is_version(other, made) if len(made) <= 400 else None


def slow_standing(recut, other, way):
    """The standing of a way; None if something goes wrong on it."""
    state, last = 0, None
    for name in way:
        found = [entry for entry in recut.entries if entry[:2] == (state, name)]
        if not found:
            return None
        state = found[0][2]
        for put in found[0][3]:
            if put not in other.names or put not in (other.starts if last is None else other.followers(last)):
                return None
            last = put
    return way[-1], state, last


def slowly_judged(recut, plan, other, table):
    """What judge_carries tells of a tuple, in the words of [43]."""
    def formed(row):
        if not isinstance(row, tuple) or len(row) != 3 or row[0] not in plan.names:
            return False
        if not isinstance(row[1], int) or isinstance(row[1], bool) or not 0 <= row[1] <= 35:
            return False
        return row[2] is None or row[2] in other.names

    def behind(row, name):
        found = [entry for entry in recut.entries if entry[:2] == (row[1], name)]
        if not found:
            return None
        last = led(row[2], found[0][3])
        return None if last == "wrong" else (name, found[0][2], last)

    def led(last, names):
        for put in names:
            if put not in other.names or put not in (other.starts if last is None else other.followers(last)):
                return "wrong"
            last = put
        return last

    good = [row for row in table if formed(row)]
    for name in plan.starts:
        if behind((None, 0, None), name) not in good:
            return -1
    for number, row in enumerate(table):
        if not formed(row):
            return number
        if row[0] in plan.ends:
            found = [out for state, out in recut.tails if state == row[1]]
            if not found or led(row[2], found[0]) not in other.ends:
                return number
        for name in plan.followers(row[0]):
            if behind(row, name) not in good:
                return number
    return None


def twin_of(dice, plan):
    """Another plan and a re-cut to it that carries the plan as often as not."""
    names = dict(zip(plan.names, "pqrstuvw"))
    arrows = [(names[left], names[right]) for left, right in plan.arrows if dice.random() < 0.97]
    if dice.random() < 0.5:
        arrows.append((dice.choice("pq"[:len(names)]), dice.choice("pq"[:len(names)])))
    pieces = [(name, 0, 1, 1, 1, "on") for name in names.values()]
    known = list(dict.fromkeys(arrows))
    # All pieces begin and end versions now and then, so that none is without one.
    starts = [names[name] for name in plan.starts]
    ends = [names[name] for name in plan.ends]
    starts += [name for name in names.values() if name not in starts and dice.random() < 0.2]
    ends += [name for name in names.values() if name not in ends and dice.random() < 0.2]
    try:
        other = Plan(Reel(5), pieces, known, starts, ends)
    except ValueError:
        return None
    entries = []
    late = dice.random() < 0.4
    # Either each name is put out at once, or the name before it, by states that remember it.
    if late:
        states = {None: 0}
        for name in plan.names:
            states[name] = len(states)
        for ahead, state in states.items():
            for name in plan.names:
                entries.append((state, name, states[name], () if ahead is None else (names[ahead],)))
        tails = [(state, () if ahead is None else (names[ahead],)) for ahead, state in states.items()]
    else:
        entries = [(0, name, 0, (names[name],)) for name in plan.names]
        tails = [(0, ())]
    if dice.random() < 0.2:
        entries.pop(dice.randrange(len(entries)))
    return other, Recut(entries, tails)


class CarriesTest(Case):
    def test_same(self):
        plan = example_plan()
        verdict = Carries(Recut.same(plan.names), plan, plan)
        self.assertIs(bool(verdict), True)
        self.assertIsNone(verdict.version)
        self.assertEqual(verdict.table, (("a", 0, "a"), ("b", 0, "b"), ("c", 0, "c")))
        self.assertEqual((len(verdict), list(verdict)), (3, list(verdict.table)))

    def test_each_way_to_fail(self):
        plan = lettered_plan("ab ba", "a", "b")
        other = lettered_plan("xy yx yz", "x", "yz")
        twice, thrice = ("a", "b") * 2, ("a", "b") * 3
        for entries, tails, version in (
            ("0a0x 0b0y", "0", None),
            # Stuck amid a version, and at its end.
            ("0a1x 1b2y 2a3x", "2", twice), ("0a1x 1b2y 2a3x 3b4y", "2", twice), ("0a0x 0b0y", "", ("a", "b")),
            ("0a0x 0b0y", "1", ("a", "b")),
            # A name that is no piece, a first one that is no start, an arrow that lacks, no end at the end.
            ("0a0x 0b1y 1a2w 2b0", "0 1", twice), ("0a0y 0b0x", "0y", ("a", "b")), ("0a0x 0b0x", "0", ("a", "b")),
            ("0a0x 0b0yx", "0", ("a", "b")), ("0a0x 0b1y 1a2z 2b1", "1", thrice),
            # An empty row.
            ("0a0 0b0", "0", ("a", "b")),
            # Names that are put out several at once, and by tails.
            ("0a0xy 0b0", "0", None), ("0a1xyx 1b0y", "0", None), ("0a1xyy 1b0", "0", ("a", "b")),
            ("0a0 0b1 1a1 1b1", "1xyz", None), ("0a0 0b1 1a1 1b1", "1xyx", ("a", "b")), ("0a0 0b1 1a1 1b1", "1yz", ("a", "b")),
            ("0a0 0b1 1a1 1b1", "1xz", ("a", "b")), ("0a0 0b1 1a1 1b1", "1xw", ("a", "b")),
        ):
            recut = recut_of(entries, tails)
            verdict = Carries(recut, plan, other)
            self.assertEqual(verdict.version, version, (entries, tails))
            self.assertIs(bool(verdict), version is None)
            self.assertEqual(verdict.table is None, version is not None)
            failing = [found for found in versions(plan, 8) if not is_carried(recut, other, found)]
            self.assertEqual(failing[:1], [] if version is None else [version])

    def test_other_names(self):
        plan = lettered_plan("ab", "a", "b")
        recut = Recut([(0, "a", 0, ("long",)), (0, "b", 0, ())], [(0, ())])
        self.assertEqual(Carries(recut, plan, lettered_plan("xy", "x", "y")).version, ("a", "b"))
        other = Plan(Reel(5), (("long", 0, 1, 1, 1, "on"),), (), ("long",), ("long",))
        verdict = Carries(recut, plan, other)
        self.assertEqual(verdict.table, (("a", 0, "long"), ("b", 0, "long")))

    def test_the_least_of_several(self):
        plan = lettered_plan("ab ac bd cd ad dd", "a", "d")
        other = lettered_plan("xx", "x", "x")
        # It goes wrong in c, at once, and in b at the end.
        recut = recut_of("0a0x 0b1x 0d0x 1d1x 0c2w", "0")
        self.assertEqual(Carries(recut, plan, other).version, ("a", "b", "d"))
        recut = recut_of("0a0x 0b1x 0d0x 1d1x 0c2w", "0 1")
        self.assertEqual(Carries(recut, plan, other).version, ("a", "c", "d"))
        recut = recut_of("0a0x 0b1x 0d3x 1d1x 0c2w 3d4x", "0 1 3")
        self.assertEqual(Carries(recut, plan, other).version, ("a", "c", "d"))
        recut = recut_of("0a0x 0b0x 0c0x 0d3x 3d4x 4d5w", "3 4")
        self.assertEqual(Carries(recut, plan, other).version, ("a", "d", "d", "d"))

    def test_wrong_ways_go_on(self):
        plan = lettered_plan("ab bc cd", "a", "d")
        recut = recut_of("0a0w 0b0x 0c0x 0d0x", "0")
        self.assertEqual(Carries(recut, plan, lettered_plan("xx", "x", "x")).version, ("a", "b", "c", "d"))

    def test_the_table_and_its_order(self):
        plan = lettered_plan("ab ac ba ca", "a", "bc")
        other = lettered_plan("xy yx", "x", "xy")
        recut = recut_of("0a1 1b0xy 1c2x 2a3 3b2yx 3c0y", "0 2")
        verdict = Carries(recut, plan, other)
        self.assertEqual(verdict.table, (
            ("a", 1, None), ("b", 0, "y"), ("c", 2, "x"), ("a", 1, "y"), ("a", 3, "x"), ("b", 2, "x"), ("c", 0, "y"),
        ))

    def test_against_all_versions(self):
        dice = random.Random(431)
        seen = {True: 0, False: 0}
        for plan in turned(random_plans(431, 500, 3)):
            made = twin_of(dice, plan)
            if made is None:
                continue
            other, recut = made
            if dice.random() < 0.15:
                recut = random_recut(dice, plan.names, other.names, 2)
            verdict = Carries(recut, plan, other)
            failing = [version for version in versions(plan, 7) if not is_carried(recut, other, version)]
            if failing or verdict.version is not None and len(verdict.version) <= 7:
                self.assertEqual(verdict.version, failing[0])
                self.assertEqual((verdict.table, len(verdict)), (None, 0))
            elif verdict.version is None:
                found = {}
                for way in ways(plan, 7):
                    found[slow_standing(recut, other, way)] = True
                self.assertEqual(verdict.table[:len(found)], tuple(found))
                self.assertNotIn(None, found)
                self.assertIsNone(judge_carries(recut, plan, other, verdict.table))
            else:
                self.assertIs(is_carried(recut, other, verdict.version), False)
            seen[bool(verdict)] += 1
        self.assertGreater(min(seen.values()), 60)


class JudgeTest(Case):
    PLAN = lettered_plan("ab ac ba ca", "a", "bc")
    OTHER = lettered_plan("xy yx", "x", "xy")
    RECUT = recut_of("0a1 1b0xy 1c2x 2a3 3b2yx 3c0y", "0 2")
    TABLE = (
        ("a", 1, None), ("b", 0, "y"), ("c", 2, "x"), ("a", 1, "y"), ("a", 3, "x"), ("b", 2, "x"), ("c", 0, "y"),
    )

    def judged(self, table):
        told = judge_carries(self.RECUT, self.PLAN, self.OTHER, table)
        if isinstance(table, tuple):
            self.assertEqual(told, slowly_judged(self.RECUT, self.PLAN, self.OTHER, table))
        return told

    def test_the_table_itself(self):
        self.assertIsNone(self.judged(self.TABLE))
        self.assertIsNone(self.judged([list(row) for row in self.TABLE]))
        self.assertIsNone(self.judged(self.TABLE[::-1]))
        self.assertIsNone(self.judged(self.TABLE * 2))

    def test_rows_left_out_and_turned_round(self):
        self.assertEqual(self.judged(self.TABLE[1:]), -1)
        for number, told in ((1, 0), (2, 0), (3, 1), (4, 2), (5, 4), (6, 4)):
            self.assertEqual(self.judged(self.TABLE[:number] + self.TABLE[number + 1:]), told)
        for table in ((), None, 5, "abc", {}, True):
            self.assertEqual(self.judged(table), -1)

    def test_each_part_changed(self):
        seen = set()
        for number, (name, state, last) in enumerate(self.TABLE):
            rows = [(other, state, last) for other in "abc"] + [(name, other, last) for other in (0, 1, 2, 3, 4, 35)]
            rows += [(name, state, other) for other in ("x", "y", None)]
            for row in rows:
                seen.add(self.judged(self.TABLE[:number] + (row,) + self.TABLE[number + 1:]))
                self.judged(self.TABLE + (row,))
        self.assertLessEqual({None, -1, 0, 1, 2, 4}, seen)

    def test_without_the_form(self):
        for row in (
            None, 5, "b0y", (), ("b",), ("b", 0), ("b", 0, "y", 0), ("d", 0, "y"), (None, 0, "y"), (["b"], 0, "y"), ("b", -1, "y"),
            ("b", 36, "y"), ("b", False, "y"), ("b", None, "y"), ("b", "0", "y"), ("b", 0.0, "y"), ("b", 0, "b"), ("b", 0, ""),
            ("b", 0, ("y",)), ("b", 0, 0), ("b", 0, False), {}, ("x", 0, "y"),
        ):
            self.assertEqual(self.judged(self.TABLE + (row,)), 7, row)
            self.assertEqual(self.judged((row,) + self.TABLE), 0, row)
            self.assertEqual(self.judged((row,) + self.TABLE[1:]), -1, row)

    def test_rows_that_are_never_reached(self):
        # In the state 3 behind y: c puts out y again, along no arrow.
        self.assertEqual(self.judged(self.TABLE + (("a", 3, "y"),)), 7)
        self.assertEqual(self.judged(self.TABLE + (("b", 0, "x"),)), 7)
        self.assertIsNone(self.judged(self.TABLE + (("b", 2, "x"), ("c", 0, "y"))))

    def test_something_wrong_at_a_start(self):
        for entries in ("0a1w", "0a1y", "", "1a1x"):
            self.assertEqual(judge_carries(recut_of(entries, "0"), self.PLAN, self.OTHER, self.TABLE), -1)
        plan = silent_plan(2, (), ("a", "b"), ("a", "b"))
        self.assertIsNone(judge_carries(recut_of("0a0x 0b0x", "0"), plan, self.OTHER, (("b", 0, "x"), ("a", 0, "x"))))
        self.assertEqual(judge_carries(recut_of("0a0x", "0"), plan, self.OTHER, (("b", 0, "x"), ("a", 0, "x"))), -1)
        self.assertEqual(judge_carries(recut_of("0a0x 0b0x", ""), plan, self.OTHER, (("b", 0, "x"), ("a", 0, "x"))), 0)

    def test_against_the_words(self):
        dice = random.Random(433)
        seen = set()
        for plan in turned(random_plans(433, 400, 3)):
            made = twin_of(dice, plan)
            if made is None:
                continue
            other, recut = made
            table = Carries(recut, plan, other).table
            if table is None:
                found = {slow_standing(recut, other, way): True for way in ways(plan, 4)}
                table = tuple(row for row in found if row is not None)
            for _ in range(4):
                rows = [row for row in table if dice.random() < 0.95]
                rows += [dice.choice(rows) for _ in range(dice.randint(0, 2)) if rows]
                if rows and dice.random() < 0.5:
                    at = dice.randrange(len(rows))
                    name, state, last = rows[at]
                    changed = [(dice.choice(plan.names), state, last), (name, dice.randint(0, 3), last)]
                    rows[at] = dice.choice(changed + [(name, state, dice.choice(other.names + (None,)))])
                dice.shuffle(rows)
                told = judge_carries(recut, plan, other, tuple(rows))
                self.assertEqual(told, slowly_judged(recut, plan, other, tuple(rows)))
                seen.add(told if told in (None, -1) else 0)
        self.assertEqual(seen, {None, -1, 0})
