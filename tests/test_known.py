"""[29]: whether all texts are clear."""

import random

from seamfast.errors import BadMemory, BadNamed, BadRow
from seamfast.known import Known, judge_ages, unclear
from seamfast.plans import Plan
from seamfast.reels import Reel
from seamfast.ways import row_sends, ways
from tests.samples import Case, example_plan, random_plans, random_row, rich_plans
from tests.test_windows import silent_plan

BAD_MEMORIES = (0, 41, -1, True, False, "1", 1.0, (1,), 10 ** 39)


def line_plan(speakers, arrows=(), starts="a", ends=None):
    """A plan of a piece for each speaker, told by a letter, with a text of this speaker; "-" is a piece without one."""
    cues = [(number, number + 1, letter, "x") for number, letter in enumerate(speakers) if letter != "-"]
    names = "abcdefghijkl"[:len(speakers)]
    pieces = [(name, number, number + 1, 1, 1, "on") for number, name in enumerate(names)]
    arrows = arrows or list(zip(names, names[1:]))
    return Plan(Reel(len(speakers), cues), pieces, arrows, tuple(starts), tuple(ends or names[-1]))


def seen_unclear(plan, named, memory, row):
    """The sends of a row that are not clear, one by one."""
    texts = [cue for cue, _ in row_sends(plan, row)]
    told = []
    for number, cue in enumerate(texts):
        ahead = texts[:number] if memory is None else texts[max(0, number - memory):number]
        if cue not in named and not any(other in named and plan.reel[other][2] == plan.reel[cue][2] for other in ahead):
            told.append(number)
    return tuple(told)


def seen_ages(plan, named, memory, row):
    """The ages at the end of a way."""
    texts = [cue for cue, _ in row_sends(plan, row)]
    told = []
    for speaker in sorted({cue[2] for cue in plan.reel}):
        places = [number for number, cue in enumerate(texts) if cue in named and plan.reel[cue][2] == speaker]
        if not places:
            told.append(None)
        elif memory is None:
            told.append(0)
        else:
            age = len(texts) - 1 - places[-1]
            told.append(age if age < memory else None)
    return tuple(told)


def oldest(ages):
    """The greatest of some ages."""
    return None if None in ages else max(ages)


def gone_by(plan, named, memory, name, ages):
    """Whether all texts of a piece are clear, and the ages at its end, text by text."""
    speakers = sorted({cue[2] for cue in plan.reel})
    ages = dict(zip(speakers, ages))
    clear = True
    for cue, _ in plan.sends_of(name):
        speaker = plan.reel[cue][2]
        clear = clear and (cue in named or ages[speaker] is not None)
        for other, age in ages.items():
            if age is not None and memory is not None:
                ages[other] = age + 1 if age + 1 < memory else None
        if cue in named:
            ages[speaker] = 0
    return clear, tuple(ages.values())


def all_ages(plan, named, memory):
    """The last pieces of all ways, each with the ages at its end."""
    none = (None,) * len(plan.reel.speakers)
    found = [(name, gone_by(plan, named, memory, name, none)[1]) for name in plan.starts]
    for name, ages in found:
        for follower in plan.followers(name):
            behind = (follower, gone_by(plan, named, memory, follower, ages)[1])
            if behind not in found:
                found.append(behind)
    return found


def slowly_judged(plan, named, memory, table):
    """What judge_ages tells of a tuple, in the words of [29]."""
    speakers = sorted({cue[2] for cue in plan.reel})
    most = 0 if memory is None else memory - 1

    def formed(row):
        if not isinstance(row, tuple) or len(row) != 2 or row[0] not in plan.names or not isinstance(row[1], tuple):
            return False
        return len(row[1]) == len(speakers) and all(age is None or (type(age) is int and 0 <= age <= most) for age in row[1])

    def keeps(name, ages):
        clear, behind = gone_by(plan, named, memory, name, ages)
        told = [row[1] for row in table if formed(row) and row[0] == name][0]
        return clear and all(limit is None or (age is not None and age <= limit) for age, limit in zip(behind, told))

    if not all(any(formed(row) and row[0] == name for row in table) for name in plan.names):
        return -1
    if not all(keeps(name, (None,) * len(speakers)) for name in plan.starts):
        return -1
    for number, row in enumerate(table):
        if not formed(row) or not all(keeps(name, row[1]) for name in plan.followers(row[0])):
            return number
    return None


def random_named(dice, plan):
    """Some numbers of cues, ascending."""
    share = dice.choice((0.3, 0.6, 0.9, 1))
    return tuple(cue for cue in range(len(plan.reel)) if dice.random() < share)


class UnclearTest(Case):
    def test_example(self):
        plan = example_plan()
        row = ("a", "c", "a", "b")
        # The texts are those of the cues 0, 1, 1, 0, 1, 2.
        self.assertEqual(unclear(plan, (), None, row), (0, 1, 2, 3, 4, 5))
        self.assertEqual(unclear(plan, (0, 1, 2), 1, row), ())
        self.assertEqual(unclear(plan, (0,), None, row), (1, 2, 4))
        self.assertEqual(unclear(plan, (0,), 2, row), (1, 2, 4))
        self.assertEqual(unclear(plan, (0,), 1, row), (1, 2, 4, 5))
        self.assertEqual(unclear(plan, [1], 1, list(row)), (0, 3, 5))
        self.assertEqual(unclear(plan, (2,), 40, row), (0, 1, 2, 3, 4))

    def test_just_inside_and_just_outside_of_the_memory(self):
        # One named text of r, others of s, one more of r.
        for many in (0, 1, 2, 9):
            plan = line_plan("r" + "s" * many + "r")
            named = tuple(range(many + 1))
            row = plan.names
            self.assertEqual(unclear(plan, named, many + 1, row), ())
            if many > 0:
                self.assertEqual(unclear(plan, named, many, row), (many + 1,))
            self.assertEqual(unclear(plan, named, 40, row), ())
            self.assertEqual(unclear(plan, named, None, row), ())
        plan = line_plan("rst", [("a", "b"), ("b", "b"), ("b", "c"), ("c", "a")])
        for many, told in ((38, ()), (39, ()), (40, (41,))):
            self.assertEqual(unclear(plan, (0, 1), 40, ("a",) + ("b",) * many + ("a",))[:1], ())
            row = ("a",) + ("b",) * many + ("c",)
            self.assertEqual(unclear(plan, (0, 1), 40, row), (many + 1,))
            alike = line_plan("rsr", [("a", "b"), ("b", "b"), ("b", "c"), ("c", "a")])
            self.assertEqual(unclear(alike, (0, 1), 40, row), told)

    def test_a_text_that_is_not_named_does_not_help(self):
        plan = line_plan("rsrr")
        self.assertEqual(unclear(plan, (0, 1), 2, plan.names), (3,))
        self.assertEqual(unclear(plan, (0, 1), 3, plan.names), ())

    def test_against_texts_one_by_one(self):
        dice = random.Random(161)
        for plan in random_plans(161, 150) + rich_plans(162, 250):
            named = random_named(dice, plan)
            memory = dice.choice((None, 1, 2, 3, 4, 40))
            row = random_row(dice, plan)
            self.assertEqual(unclear(plan, named, memory, row), seen_unclear(plan, named, memory, row))

    def test_errors(self):
        plan = example_plan()
        for named in (None, 5, "01", True, {}):
            self.fails(BadNamed, -1, unclear, plan, named, 0, None)
            self.fails(BadNamed, -1, Known, plan, named, 0)
            self.fails(BadNamed, -1, judge_ages, plan, named, 0, None)
        for named, number in (
            ((3,), 0), ((-1,), 0), ((0, 0), 1), ((1, 0), 1), ((0, 1, 2, 3), 3), ((True,), 0), ((0, True), 1), ((0, None), 1),
            (("0",), 0), ((0.0,), 0), (([0],), 0), ([0, 2, 1], 2), ((False, 5), 0),
        ):
            self.fails(BadNamed, number, unclear, plan, named, 0, None)
            self.fails(BadNamed, number, Known, plan, named, 0)
            self.fails(BadNamed, number, judge_ages, plan, named, 0, None)
        for memory in BAD_MEMORIES:
            self.fails(BadMemory, (memory,), unclear, plan, (0,), memory, None)
            self.fails(BadMemory, (memory,), Known, plan, (0,), memory)
            self.fails(BadMemory, (memory,), judge_ages, plan, (0,), memory, None)
        for row in ((), None, "a", ("a",) * 401):
            self.fails(BadRow, -1, unclear, plan, (0,), 1, row)
        self.fails(BadRow, 1, unclear, plan, (0,), 40, ("a", "d"))
        self.assertEqual(unclear(plan, (), None, ("b",) * 400), tuple(range(400)))


class VerdictTest(Case):
    def test_example(self):
        plan = example_plan()
        verdict = Known(plan, (0, 1), 2)
        self.assertIs(bool(verdict), True)
        # For ann and bob: behind a one text of bob is the last one, behind c two may be, behind b one of ann.
        self.assertEqual(verdict.table, (("a", (1, 0)), ("b", (None, 1)), ("c", (None, 0))))
        self.assertEqual((verdict.way, verdict.cue, len(verdict), tuple(verdict)), (None, None, 3, verdict.table))
        self.assertEqual(Known(plan, [0, 1], None).table, (("a", (0, 0)), ("b", (0, 0)), ("c", (0, 0))))
        self.assertEqual(Known(plan, (0, 1, 2), 3).table, (("a", (1, 0)), ("b", (0, 1)), ("c", (2, 0))))

    def test_not_clear(self):
        plan = example_plan()
        verdict = Known(plan, (0, 1), 1)
        self.assertIs(bool(verdict), False)
        self.assertEqual((verdict.way, verdict.cue, verdict.table), (("a", "b"), 2, None))
        self.assertEqual((len(verdict), list(verdict)), (0, []))
        self.assertEqual((Known(plan, (), 1).way, Known(plan, (), 1).cue), (("a",), 0))
        self.assertEqual((Known(plan, (0, 2), 1).way, Known(plan, (0, 2), 1).cue), (("a",), 1))

    def test_the_first_text_of_the_least_way(self):
        # In d the texts of two speakers are not clear, the one that comes first being of the speaker who comes last.
        cues = ((0, 1, "a", "x"), (1, 2, "z", "x"), (3, 4, "z", "y"), (4, 5, "a", "y"))
        pieces = (("a", 0, 2, 1, 1, "on"), ("b", 2, 3, 1, 1, "on"), ("d", 3, 5, 1, 1, "on"))
        plan = Plan(Reel(5, cues), pieces, (("a", "b"), ("b", "d")), ("a", "b"), ("d",))
        verdict = Known(plan, (0, 1), None)
        self.assertEqual((verdict.way, verdict.cue), (("b", "d"), 2))

    def test_no_speakers(self):
        plan = silent_plan(2, (("a", "b"), ("b", "a")), ("a",), ("b",))
        self.assertEqual(Known(plan, (), 1).table, (("a", ()), ("b", ())))
        self.assertIsNone(judge_ages(plan, (), 1, (("a", ()), ("b", []))))
        self.assertEqual(judge_ages(plan, (), 1, (("a", ()), ("b", (None,)))), -1)

    def test_a_speaker_who_is_never_sent(self):
        plan = Plan(Reel(9, ((0, 2, "ann", "x"), (3, 5, "bob", "y"))), (("a", 0, 3, 1, 1, "on"),), (("a", "a"),), ("a",), ("a",))
        self.assertEqual(Known(plan, (0,), 5).table, (("a", (0, None)),))
        self.assertEqual(Known(plan, (0, 1), None).table, (("a", (0, None)),))

    def test_very_long_ways(self):
        # Each turn of a ring of twelve pieces sends one text; behind forty of them the name is forgotten.
        names = "abcdefghijkl"
        cues = ((0, 1, "r", "x"), (2, 3, "s", "x"), (20, 21, "r", "y"))
        pieces = [("a", 2, 3, 1, 1, "on")] + [(name, 4 + at, 5 + at, 1, 1, "on") for at, name in enumerate(names[1:10])]
        pieces += [("y", 0, 1, 1, 1, "on"), ("z", 20, 21, 1, 1, "on")]
        arrows = list(zip(names[:9], names[1:10])) + [("j", "a"), ("y", "a"), ("j", "z")]
        plan = Plan(Reel(30, cues), pieces, arrows, ("y",), ("z",))
        verdict = Known(plan, (0, 1), 40)
        self.assertEqual((verdict.way, verdict.cue), (("y",) + tuple(names[:10]) * 40 + ("z",), 2))
        self.assertEqual(len(verdict.way), 402)
        self.assertIs(bool(Known(plan, (0, 1), None)), True)

    def test_against_ways_one_by_one(self):
        dice = random.Random(163)
        seen = [0, 0, 0]
        for plan in random_plans(163, 200, 3) + rich_plans(164, 300, 3):
            named = random_named(dice, plan)
            memory = dice.choice((None, 1, 2, 3, 4, 6))
            verdict = Known(plan, named, memory)
            most = 6
            rows = list(ways(plan, most))
            wrong = [way for way in rows if seen_unclear(plan, named, memory, way)]
            if verdict:
                seen[0] += 1
                self.assertEqual(wrong, [])
                self.assertIsNone(judge_ages(plan, named, memory, verdict.table))
                found = all_ages(plan, named, memory)
                for way in rows:
                    self.assertIn((way[-1], seen_ages(plan, named, memory, way)), found)
                for name, ages in verdict.table:
                    told = [row for other, row in found if other == name]
                    self.assertEqual(ages, tuple(oldest(row) for row in zip(*told)))
            elif len(verdict.way) <= most:
                seen[1] += 1
                self.assertEqual(verdict.way, wrong[0])
                first = seen_unclear(plan, named, memory, wrong[0])[0]
                self.assertEqual(verdict.cue, row_sends(plan, wrong[0])[first][0])
            else:
                seen[2] += 1
                self.assertEqual(wrong, [])
        self.assertGreater(min(seen[:2]), 40)


class JudgeTest(Case):
    TABLE = (("a", (1, 0)), ("b", (None, 1)), ("c", (None, 0)))

    def judged(self, table, memory=2):
        return judge_ages(example_plan(), (0, 1), memory, table)

    def test_the_table_told(self):
        self.assertIsNone(self.judged(self.TABLE))
        self.assertIsNone(self.judged([[name, list(ages)] for name, ages in self.TABLE]))
        self.assertIsNone(self.judged(self.TABLE[::-1]))
        self.assertIsNone(self.judged(self.TABLE * 2))

    def test_each_age_changed(self):
        seen = set()
        for memory in (2, 3, None):
            table = Known(example_plan(), (0, 1), memory).table
            for number, (name, ages) in enumerate(table):
                for speaker in range(2):
                    for age in (0, 1, 2, None):
                        changed = (name, ages[:speaker] + (age,) + ages[speaker + 1:])
                        rows = table[:number] + (changed,) + table[number + 1:]
                        told = self.judged(rows, memory)
                        self.assertEqual(told, slowly_judged(example_plan(), (0, 1), memory, rows))
                        seen.add(told)
        self.assertEqual(seen, {None, -1, 0})
        self.assertEqual(self.judged((("a", (0, 0)),) + self.TABLE[1:]), -1)
        self.assertEqual(self.judged((("a", (None, 0)),) + self.TABLE[1:]), 0)
        self.assertEqual(self.judged(self.TABLE[:2] + (("c", (1, 0)),)), 0)

    def test_rows_left_out_and_without_the_form(self):
        for number in range(3):
            self.assertEqual(self.judged(self.TABLE[:number] + self.TABLE[number + 1:]), -1)
        for table in ((), None, 5, "abc", {}, True):
            self.assertEqual(self.judged(table), -1)
        for row in (
            None, 5, "b", (), ("b",), ("b", (0, 1), 1), ("d", (0, 1)), (None, (0, 1)), (["b"], (0, 1)), ("b", None), ("b", 5),
            ("b", "01"), ("b", (0,)), ("b", (0, 1, 1)), ("b", ()), ("b", (0, 2)), ("b", (-1, 0)), ("b", (True, 0)),
            ("b", (0, False)), ("b", (0, 1.0)), ("b", (0, "1")), {}, ("b", {0: 1, 1: 0}),
        ):
            self.assertEqual(self.judged(self.TABLE + (row,)), 3, row)
            self.assertEqual(self.judged((row,) + self.TABLE), 0, row)
            self.assertEqual(self.judged((row, self.TABLE[0], self.TABLE[2])), -1)
        # Without a memory each age is 0 or None.
        table = (("a", (0, 0)), ("b", (0, 0)), ("c", (0, 0)))
        self.assertIsNone(self.judged(table, None))
        self.assertEqual(self.judged(table + (("b", (0, 1)),), None), 3)

    def test_the_first_row_tells(self):
        self.assertIsNone(self.judged(self.TABLE + (("c", (1, 0)), ("a", (0, 0)))))
        self.assertEqual(self.judged((("c", (1, 0)),) + self.TABLE), 1)
        self.assertEqual(self.judged(self.TABLE + (("a", (None, 0)),)), 3)

    def test_against_the_words(self):
        dice = random.Random(165)
        seen = set()
        for plan in random_plans(165, 100, 3) + rich_plans(166, 250, 3):
            named = random_named(dice, plan)
            memory = dice.choice((None, 2, 3, 4, 6))
            table = Known(plan, named, memory).table
            if table is None:
                table = tuple((name, (None,) * len(plan.reel.speakers)) for name in plan.names)
            ages_told = [None, 0] + list(range(memory or 0))
            for _ in range(4):
                rows = []
                for name, ages in table:
                    rows.append((name, tuple(age if dice.random() < 0.9 else dice.choice(ages_told) for age in ages)))
                rows += [dice.choice(rows) for _ in range(dice.randint(0, 2))]
                if dice.random() < 0.1:
                    rows.pop()
                dice.shuffle(rows)
                told = judge_ages(plan, named, memory, tuple(rows))
                self.assertEqual(told, slowly_judged(plan, named, memory, tuple(rows)))
                seen.add(told if told in (None, -1) else 0)
        self.assertEqual(seen, {None, -1, 0})
