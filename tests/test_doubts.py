"""[37]: doubts."""

import random

from seamfast.doubts import Doubts, doubts_behind, judge_doubts
from seamfast.errors import BadDelay, Silent, TooMany
from seamfast.plans import Plan
from seamfast.reels import Reel
from tests.samples import Case, example_plan
from tests.test_recordings import BAD_DELAYS, heard_plans
from tests.test_windows import silent_plan


def next_sends(plan, place):
    """All places of a next send with the time until then, by going on piece by piece."""
    name, number = place
    sends = plan.sends_of(name)
    if number + 1 < len(sends):
        return [((name, number + 1), sends[number + 1][1] - sends[number][1])]
    found = []
    rows = [(other, plan.shown_of(name) - sends[number][1]) for other in plan.followers(name)]
    for name, begun in rows:
        if plan.sends_of(name):
            found.append(((name, 0), begun + plan.sends_of(name)[0][1]))
        else:
            rows.extend((other, begun + plan.shown_of(name)) for other in plan.followers(name))
    return found


def text_at(plan, unlike, place):
    """The text of a place, or the number of its cue if this is made unlike all others."""
    cue = plan.sends_of(place[0])[place[1]][0]
    return cue if cue in unlike else plan.reel[cue][3]


def fresh_doubts(plan, unlike=()):
    """All fresh doubts."""
    places = [(name, number) for name in plan.names for number in range(len(plan.sends_of(name)))]
    return sorted(
        (left, right, 0, 0) for left in places for right in places
        if left < right and text_at(plan, unlike, left) == text_at(plan, unlike, right)
    )


def slow_behind(plan, slack, doubt, unlike=()):
    """The doubts behind a doubt, with the differences laid out."""
    left, right, down, up = doubt
    found = set()
    for place, time in next_sends(plan, left):
        for other, passed in next_sends(plan, right):
            if place == other or text_at(plan, unlike, place) != text_at(plan, unlike, other):
                continue
            # The present difference is taken as 0 here.
            differences = [-down, up, 0, time - passed]
            if max(differences) - min(differences) > 2 * slack:
                continue
            low, high = differences[-1] - min(differences), max(differences) - differences[-1]
            found.add((place, other, low, high) if place < other else (other, place, high, low))
    return tuple(sorted(found))


def courses_apart(plan, slack, many):
    """The doubts that pairs of whole courses lead to at each number, told by all their moments."""
    levels = []
    pairs = [(left, right, (0,)) for left, right, _, _ in fresh_doubts(plan)]
    for _ in range(many):
        level = set()
        longer = []
        for left, right, differences in pairs:
            down, up = differences[-1] - min(differences), max(differences) - differences[-1]
            level.add((left, right, down, up) if left < right else (right, left, up, down))
            for place, time in next_sends(plan, left):
                for other, passed in next_sends(plan, right):
                    more = differences + (differences[-1] + time - passed,)
                    alike = text_at(plan, (), place) == text_at(plan, (), other)
                    if place != other and alike and max(more) - min(more) <= 2 * slack:
                        longer.append((place, other, more))
        levels.append(level)
        pairs = longer
        if len(pairs) > 3000:
            return levels, True
    return levels, len(pairs) > 0


def slow_doubts(plan, slack, unlike=(), most=400):
    """All doubts in their order, with those behind each; None if they are more than 400."""
    led = {}
    level = fresh_doubts(plan, unlike)
    while level:
        for doubt in level:
            led[doubt] = slow_behind(plan, slack, doubt, unlike)
        if len(led) > most:
            return None
        level = sorted({other for doubt in level for other in led[doubt]} - set(led))
    return led


def longest(led):
    """For each doubt the greatest number of steps that can follow it, None if there is none."""
    ranks = {doubt: 0 for doubt in led}
    for _ in range(len(led) + 1):
        ranks = {doubt: max([ranks[other] + 1 for other in led[doubt]], default=0) for doubt in led}
    return {doubt: rank if rank <= len(led) else None for doubt, rank in ranks.items()}


def least_walk(led, begun, last):
    """The least walk from one of some doubts to the last one, out of all walks, told by their doubts."""
    walks = [(doubt,) for doubt in begun]
    known = set()
    while walks:
        for walk in sorted(walks):
            if walk[-1] == last:
                return walk
        longer = []
        for walk in sorted(walks):
            if walk[-1] not in known:
                known.add(walk[-1])
                longer.extend(walk + (other,) for other in led[walk[-1]])
        walks = longer
    return None


def slowly_judged(plan, slack, table):
    """What judge_doubts tells of a tuple, in the words of [37]."""
    places = [(name, number) for name in plan.names for number in range(len(plan.sends_of(name)))]

    def number(thing):
        return isinstance(thing, int) and not isinstance(thing, bool) and thing >= 0

    def place(thing):
        return isinstance(thing, tuple) and len(thing) == 2 and number(thing[1]) and thing in places

    def formed(row):
        if not isinstance(row, tuple) or len(row) != 2 or not number(row[1]):
            return False
        doubt = row[0]
        if not isinstance(doubt, tuple) or len(doubt) != 4 or not place(doubt[0]) or not place(doubt[1]):
            return False
        if not doubt[0] < doubt[1] or text_at(plan, (), doubt[0]) != text_at(plan, (), doubt[1]):
            return False
        return number(doubt[2]) and number(doubt[3]) and doubt[2] + doubt[3] <= 2 * slack

    def rank(doubt):
        return [row[1] for row in table if formed(row) and row[0] == doubt][:1]

    if not all(rank(doubt) for doubt in fresh_doubts(plan)):
        return -1
    for at, row in enumerate(table):
        if not formed(row):
            return at
        for doubt in slow_behind(plan, slack, row[0]):
            if not rank(doubt) or rank(doubt)[0] >= row[1]:
                return at
    return None


def twin_plan(ends="ag", extra=()):
    """Two rows of pieces with equal texts: a b c and g h i."""
    cues = [(0, 1, "ann", "x"), (2, 3, "ann", "y"), (4, 5, "ann", "z"), (6, 7, "bob", "x"), (8, 9, "bob", "y"), (10, 12, "bob", "z")]
    pieces = [
        ("a", 0, 2, 1, 1, "on"), ("b", 2, 4, 1, 1, "on"), ("c", 4, 6, 1, 1, "on"), ("g", 6, 8, 1, 1, "on"), ("h", 8, 10, 1, 1, "on"),
        ("i", 9, 12, 1, 1, "on"),
    ]
    arrows = [("a", "b"), ("b", "c"), ("g", "h"), ("h", "i")] + list(extra)
    return Plan(Reel(12, cues), pieces, arrows, tuple(ends), ("c", "i"))


class ArgumentsTest(Case):
    def test_slack(self):
        plan = example_plan()
        silent = silent_plan(1, (("a", "a"),), ("a",), ("a",))
        for slack in BAD_DELAYS:
            for told in (plan, silent):
                self.fails(BadDelay, (slack,), Doubts, told, slack)
                self.fails(BadDelay, (slack,), doubts_behind, told, slack, (("a", 1), ("c", 0), 0, 0))
                self.fails(BadDelay, (slack,), judge_doubts, told, slack, ())
        self.fails(Silent, "a", Doubts, silent, 0)
        self.fails(Silent, "a", doubts_behind, silent, 0, (("a", 1), ("c", 0), 0, 0))
        self.fails(Silent, "a", judge_doubts, silent, 0, None)
        self.assertIs(bool(Doubts(plan, 10000)), True)


class VerdictTest(Case):
    def test_example(self):
        plan = example_plan()
        verdict = Doubts(plan, 4)
        self.assertIs(bool(verdict), True)
        self.assertEqual((verdict.delay, verdict.lead, verdict.loop), (1, None, None))
        # Behind cue 1 in a comes cue 1 in c or cue 2 in b; behind cue 1 in c comes cue 0.
        self.assertEqual(verdict.table, (((("a", 1), ("c", 0), 0, 0), 0),))
        self.assertEqual((len(verdict), list(verdict)), (1, list(verdict.table)))

    def test_no_doubt(self):
        reel = Reel(4, ((0, 1, "ann", "x"), (1, 2, "ann", "y")))
        plan = Plan(reel, (("a", 0, 2, 1, 1, "on"),), (("a", "a"),), ("a",), ("a",))
        verdict = Doubts(plan, 100)
        self.assertEqual((bool(verdict), verdict.delay, verdict.table, len(verdict)), (True, 0, (), 0))

    def test_delay(self):
        self.assertEqual(Doubts(twin_plan(), 10).delay, 3)
        verdict = Doubts(twin_plan(), 0)
        # The time from h to i is 3 grains, that from b to c is 2; with slack 0 this tells them apart.
        self.assertEqual(verdict.delay, 2)
        self.assertEqual(verdict.table, (
            ((("a", 0), ("g", 0), 0, 0), 1), ((("b", 0), ("h", 0), 0, 0), 0), ((("c", 0), ("i", 0), 0, 0), 0),
        ))
        verdict = Doubts(twin_plan(), 1)
        self.assertEqual(verdict.delay, 3)
        self.assertEqual(verdict.table[3:], (((("c", 0), ("i", 0), 0, 1), 0),))

    def test_just_twice_the_slack(self):
        reel = Reel(30, ((0, 1, "ann", "x"), (8, 9, "ann", "y"), (12, 13, "bob", "x"), (24, 25, "bob", "y")))
        pieces = (("a", 0, 9, 1, 1, "on"), ("b", 12, 30, 1, 1, "on"))
        plan = Plan(reel, pieces, (), ("a", "b"), ("a", "b"))
        # The times are 8 and 12.
        self.assertEqual([Doubts(plan, slack).delay for slack in (0, 1, 2, 3)], [1, 1, 2, 2])
        self.assertEqual(doubts_behind(plan, 2, (("a", 0), ("b", 0), 0, 0)), ((("a", 1), ("b", 1), 0, 4),))
        self.assertEqual(doubts_behind(plan, 3, (("a", 0), ("b", 0), 2, 2)), ((("a", 1), ("b", 1), 0, 6),))
        self.assertEqual(doubts_behind(plan, 3, (("a", 0), ("b", 0), 0, 3)), ())
        self.assertEqual(doubts_behind(plan, 3, [["a", 0], ["b", 0], 5, 0]), ((("a", 1), ("b", 1), 1, 4),))

    def test_the_exchange(self):
        reel = Reel(30, ((0, 1, "ann", "x"), (8, 9, "ann", "y"), (12, 13, "bob", "x"), (22, 23, "bob", "y")))
        pieces = (("a", 12, 22, 1, 1, "on"), ("b", 0, 8, 1, 1, "on"), ("c", 22, 24, 1, 1, "on"), ("d", 8, 9, 1, 1, "on"))
        plan = Plan(reel, pieces, (("a", "d"), ("b", "c")), ("a", "b"), ("c", "d"))
        # From a to d it takes 10, from b to c 8: the first course is at d then, the greater place.
        self.assertEqual(doubts_behind(plan, 3, (("a", 0), ("b", 0), 0, 0)), ((("c", 0), ("d", 0), 0, 2),))
        self.assertEqual(doubts_behind(plan, 3, (("a", 0), ("b", 0), 1, 3)), ((("c", 0), ("d", 0), 1, 3),))
        self.assertEqual(doubts_behind(plan, 3, (("a", 0), ("b", 0), 3, 1)), ((("c", 0), ("d", 0), 0, 5),))
        self.assertEqual(doubts_behind(plan, 3, (("a", 0), ("b", 0), 5, 1)), ())

    def test_pieces_without_sends_between(self):
        reel = Reel(30, ((0, 1, "ann", "x"), (2, 3, "ann", "y"), (10, 11, "bob", "x"), (12, 13, "bob", "y")))
        pieces = (
            ("a", 0, 2, 1, 1, "on"), ("b", 2, 4, 1, 1, "on"), ("g", 10, 12, 1, 1, "on"), ("h", 12, 14, 1, 1, "on"),
            ("p", 20, 23, 1, 1, "on"), ("q", 20, 21, 1, 1, "on"),
        )
        arrows = (("a", "b"), ("g", "p"), ("g", "q"), ("p", "q"), ("q", "h"))
        plan = Plan(reel, pieces, arrows, ("a", "g"), ("b", "h"))
        # From g to h it takes 3 grains, or 6, from a to b 2.
        self.assertEqual(doubts_behind(plan, 0, (("a", 0), ("g", 0), 0, 0)), ())
        self.assertEqual(doubts_behind(plan, 1, (("a", 0), ("g", 0), 0, 0)), ((("b", 0), ("h", 0), 0, 1),))
        self.assertEqual(doubts_behind(plan, 2, (("a", 0), ("g", 0), 0, 0)), (
            (("b", 0), ("h", 0), 0, 1), (("b", 0), ("h", 0), 0, 4),
        ))

    def test_for_ever(self):
        plan = twin_plan("ag", [("c", "a"), ("i", "g")])
        verdict = Doubts(plan, 0)
        # The ring of a takes 6 grains, that of g 7.
        self.assertIs(bool(verdict), True)
        reel = Reel(4, ((0, 1, "ann", "x"), (1, 2, "bob", "x")))
        pieces = (("a", 0, 1, 1, 1, "on"), ("b", 1, 2, 1, 1, "on"))
        plan = Plan(reel, pieces, (("a", "a"), ("b", "b")), ("a", "b"), ("a", "b"))
        verdict = Doubts(plan, 0)
        self.assertIs(bool(verdict), False)
        doubt = (("a", 0), ("b", 0), 0, 0)
        self.assertEqual((verdict.delay, verdict.table, len(verdict), list(verdict)), (None, None, 0, []))
        # Here the lead is one doubt.
        self.assertEqual((verdict.lead, verdict.loop), ((doubt,), (doubt, doubt)))

    def test_a_longer_lead(self):
        cues = [(k, k + 1, "ann", text) for k, text in enumerate(("x", "x", "y", "y", "z", "z"))]
        pieces = [(name, k, k + 1, 1, 1, "on") for k, name in enumerate("abcdef")]
        arrows = [("a", "c"), ("b", "d"), ("c", "e"), ("d", "f"), ("e", "d"), ("f", "c")]
        plan = Plan(Reel(6, cues), pieces, arrows, ("a", "b"), ("e", "f"))
        verdict = Doubts(plan, 0)
        first, second, third = [((left, 0), (right, 0), 0, 0) for left, right in ("ab", "cd", "ef")]
        self.assertEqual((verdict.lead, verdict.loop), ((second,), (second, third, second)))
        # A loop that only a doubt that is not fresh comes to: the second course takes two grains more at first.
        cues = [(0, 1, "ann", "x"), (1, 2, "bob", "x"), (4, 5, "ann", "y"), (5, 6, "bob", "y")]
        pieces = [("a", 0, 1, 1, 1, "on"), ("b", 1, 4, 1, 1, "on"), ("c", 4, 5, 1, 1, "on"), ("d", 5, 6, 2, 1, "on")]
        arrows = [("a", "c"), ("b", "d"), ("c", "d"), ("d", "c")]
        plan = Plan(Reel(6, cues), pieces, arrows, ("a", "b"), ("c", "d"))
        verdict = Doubts(plan, 1)
        self.assertEqual(verdict.lead[0][2:], (0, 0))
        led = slow_doubts(plan, 1)
        self.assertEqual(verdict.loop, (verdict.loop[0],) + least_walk(led, led[verdict.loop[0]], verdict.loop[0]))

    def test_against_courses_laid_out(self):
        dice = random.Random(371)
        seen = {}
        for plan in heard_plans(371, 250):
            slack = dice.choice((0, 1, 2, 5, 20))
            led = slow_doubts(plan, slack)
            if led is None:
                self.fails(TooMany, "doubt", Doubts, plan, slack)
                seen["many"] = True
                continue
            verdict = Doubts(plan, slack)
            ranks = longest(led)
            if None in ranks.values():
                self.assertIs(bool(verdict), False)
                loops = [(doubt, least_walk(led, led[doubt], doubt)) for doubt in led]
                doubt, loop = [pair for pair in loops if pair[1] is not None][0]
                self.assertEqual(verdict.loop, (doubt,) + loop)
                self.assertEqual(verdict.lead, least_walk(led, fresh_doubts(plan), doubt))
                self.assertEqual((verdict.delay, verdict.table), (None, None))
                seen["for ever", min(3, len(verdict.lead)), min(3, len(verdict.loop))] = True
            else:
                self.assertIs(bool(verdict), True)
                self.assertEqual(verdict.table, tuple((doubt, ranks[doubt]) for doubt in led))
                delay = max([ranks[doubt] + 1 for doubt in fresh_doubts(plan)], default=0)
                self.assertEqual((verdict.delay, verdict.lead, verdict.loop), (delay, None, None))
                self.assertIsNone(judge_doubts(plan, slack, verdict.table))
                seen[min(4, delay)] = True
            levels, more = courses_apart(plan, slack, 4)
            found = set()
            for level in levels:
                found |= level
            self.assertLessEqual(found, set(led))
            if bool(verdict) and verdict.delay <= 4 and not more:
                self.assertEqual(sum(1 for level in levels if level), verdict.delay)
                self.assertEqual(found, set(led))
            for doubt in dice.sample(list(led), min(5, len(led))):
                self.assertEqual(doubts_behind(plan, slack, doubt), slow_behind(plan, slack, doubt))
        self.assertLessEqual({0, 1, 2, 3, 4, "many"}, set(seen))
        self.assertLessEqual({("for ever", 1, 2), ("for ever", 2, 2), ("for ever", 2, 3), ("for ever", 3, 3)}, set(seen))

    def test_how_many(self):
        # Of so many places with the same text, each pair is a fresh doubt.
        for many, pairs in ((28, 378), (29, 406)):
            reel = Reel(40, [(number, number + 1, "ann", "x") for number in range(many)])
            plan = Plan(reel, (("a", 0, 40, 1, 1, "on"),), (), ("a",), ("a",))
            if pairs > 400:
                self.fails(TooMany, "doubt", Doubts, plan, 0)
            else:
                verdict = Doubts(plan, 0)
                self.assertEqual((len(verdict), verdict.delay), (378, 27))
            # A ring in which the doubt can last for ever.
            plan = Plan(reel, (("a", 0, many, 1, 1, "on"),), (("a", "a"),), ("a",), ("a",))
            if pairs > 400:
                self.fails(TooMany, "doubt", Doubts, plan, 0)
            else:
                self.assertIs(bool(Doubts(plan, 0)), False)

    def test_four_hundred_and_one_more(self):
        cues = [(k, k + 1, "ann", text) for k, text in enumerate(["x"] * 28 + ["y"] * 7 + ["z", "w", "w"])]
        pieces = (("a", 0, 35, 1, 1, "on"), ("b", 35, 36, 1, 1, "on"), ("c", 35, 36, 1, 1, "on"), ("d", 36, 38, 1, 1, "on"))
        # 378 pairs of x, 21 of y, one of z in b and c, and one of w in d.
        for arrows, lasts in (((), False), ((("b", "b"), ("c", "c")), True)):
            verdict = Doubts(Plan(Reel(40, cues), pieces[:3], arrows, tuple("abc"), tuple("abc")), 0)
            self.assertIs(bool(verdict), not lasts)
            if lasts:
                self.assertEqual(verdict.loop, ((("b", 0), ("c", 0), 0, 0),) * 2)
            else:
                self.assertEqual((len(verdict), verdict.delay), (400, 27))
            plan = Plan(Reel(40, cues), pieces, arrows, tuple("abcd"), tuple("abcd"))
            self.fails(TooMany, "doubt", Doubts, plan, 0)
            # Those who judge do not count.
            self.assertEqual(judge_doubts(plan, 0, ()), -1)


class JudgeTest(Case):
    def test_ranks(self):
        plan = twin_plan()
        table = Doubts(plan, 10).table
        self.assertEqual([rank for _, rank in table], [2, 1, 0, 0])
        self.assertIsNone(judge_doubts(plan, 10, table))
        self.assertIsNone(judge_doubts(plan, 10, [[list(part) if isinstance(part, tuple) else part for part in row] for row in table]))
        self.assertIsNone(judge_doubts(plan, 10, tuple((doubt, rank * 3 + 7) for doubt, rank in table)))
        self.assertIsNone(judge_doubts(plan, 10, table[::-1]))
        self.assertIsNone(judge_doubts(plan, 10, table * 2))
        for number, (doubt, rank) in enumerate(table):
            rows = table[:number] + ((doubt, rank + 1),) + table[number + 1:]
            self.assertEqual(judge_doubts(plan, 10, rows), slowly_judged(plan, 10, rows))
            rows = table[:number] + ((doubt, rank - 1),) + table[number + 1:]
            self.assertEqual(judge_doubts(plan, 10, rows), slowly_judged(plan, 10, rows))
            rows = table[:number] + table[number + 1:]
            self.assertEqual(judge_doubts(plan, 10, rows), slowly_judged(plan, 10, rows))
            # A wrong row behind does not count, ahead it does.
            self.assertIsNone(judge_doubts(plan, 10, table + ((doubt, rank + 5),)))
            self.assertEqual(judge_doubts(plan, 10, ((doubt, rank + 5),) + table), slowly_judged(plan, 10, ((doubt, rank + 5),) + table))

    def test_a_fresh_doubt_lacks(self):
        plan = twin_plan()
        table = Doubts(plan, 0).table
        for number in range(3):
            self.assertEqual(judge_doubts(plan, 0, table[:number] + table[number + 1:]), -1)
        for thing in ((), None, 5, "abc", {}, True):
            self.assertEqual(judge_doubts(plan, 0, thing), -1)
        reel = Reel(4, ((0, 1, "ann", "x"),))
        alone = Plan(reel, (("a", 0, 2, 1, 1, "on"),), (), ("a",), ("a",))
        self.assertIsNone(judge_doubts(alone, 0, ()))
        self.assertEqual(judge_doubts(alone, 0, None), -1)

    def test_without_the_form(self):
        plan = twin_plan()
        table = Doubts(plan, 1).table
        a, g = ("a", 0), ("g", 0)
        bad = (
            None, 5, "ab", (), (1,), ((a, g, 0, 0),), ((a, g, 0, 0), 2, 2), ((a, g, 0, 0), -1), ((a, g, 0, 0), True),
            ((a, g, 0, 0), None), ((a, g, 0, 0), "2"), ((a, g, 0, 0), 2.0), ((g, a, 0, 0), 2), ((a, a, 0, 0), 2),
            ((a, ("h", 0), 0, 0), 2), ((a, ("g", 1), 0, 0), 2), ((a, ("g", False), 0, 0), 2), ((("a", False), g, 0, 0), 2),
            ((a, ("z", 0), 0, 0), 2), ((a, ("g",), 0, 0), 2), ((a, "g0", 0, 0), 2), ((a, None, 0, 0), 2), ((a, g, 0), 2),
            ((a, g, 0, 0, 0), 2), ((a, g, 3, 0), 2), ((a, g, 0, 3), 2), ((a, g, 2, 1), 2), ((a, g, -1, 0), 2),
            ((a, g, 0, -1), 2), ((a, g, True, 0), 2), ((a, g, 0, False), 2), ((a, g, None, 0), 2), (None, 2), {},
            ((a, (("g",), 0), 0, 0), 2), ((([1], 0), g, 0, 0), 2), ((a, ("g", -1), 0, 0), 2),
        )
        for row in bad:
            self.assertEqual(judge_doubts(plan, 1, table + (row,)), len(table), row)
            self.assertEqual(judge_doubts(plan, 1, (row,) + table), 0, row)
            self.assertEqual(judge_doubts(plan, 1, (row,) + table[1:]), -1, row)

    def test_doubts_that_are_never_reached(self):
        plan = twin_plan()
        table = Doubts(plan, 1).table
        a, g, b, h = [(name, 0) for name in "agbh"]
        # From there the doubt in b and h with 0 and 1 would be led to, which is not in the table.
        self.assertEqual(judge_doubts(plan, 1, table + (((a, g, 0, 1), 5),)), len(table))
        more = table + (((a, g, 0, 1), 5), ((b, h, 0, 1), 4), ((("c", 0), ("i", 0), 0, 2), 0))
        self.assertIsNone(judge_doubts(plan, 1, more))
        self.assertEqual(judge_doubts(plan, 1, more[:-1]), len(more) - 2)
        self.assertIsNone(judge_doubts(plan, 1, table + (((a, g, 0, 2), 1), ((b, h, 0, 2), 0))))

    def test_no_table_where_the_doubt_can_last(self):
        reel = Reel(4, ((0, 1, "ann", "x"), (1, 2, "bob", "x")))
        pieces = (("a", 0, 1, 1, 1, "on"), ("b", 1, 2, 1, 1, "on"))
        plan = Plan(reel, pieces, (("a", "a"), ("b", "b")), ("a", "b"), ("a", "b"))
        self.assertEqual(judge_doubts(plan, 0, (((("a", 0), ("b", 0), 0, 0), 10 ** 30),)), 0)

    def test_against_the_words(self):
        dice = random.Random(375)
        seen = set()
        for plan in heard_plans(375, 250):
            slack = dice.choice((0, 1, 2, 5))
            led = slow_doubts(plan, slack, most=60)
            if not led:
                continue
            ranks = longest(led)
            table = [(doubt, rank if rank is not None else dice.randint(0, 9)) for doubt, rank in ranks.items()]
            for _ in range(4):
                rows = [(doubt, max(0, rank + dice.choice((0, 0, 0, 0, 0, 1, -1)))) for doubt, rank in table]
                rows += [dice.choice(rows) for _ in range(dice.randint(0, 2))]
                if dice.random() < 0.2:
                    rows.pop(dice.randrange(len(rows)))
                if dice.random() < 0.5:
                    rows = [(doubt, 2 * rank) for doubt, rank in rows]
                dice.shuffle(rows)
                told = judge_doubts(plan, slack, tuple(rows))
                self.assertEqual(told, slowly_judged(plan, slack, tuple(rows)))
                seen.add(told if told in (None, -1) else 0)
        self.assertEqual(seen, {None, -1, 0})
