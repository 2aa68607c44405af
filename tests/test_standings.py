"""[15]: the horizon, standings, and how a standing goes on."""

import random

from seamfast.books import Book, carried
from seamfast.errors import BadRow, BadWay, Unknown
from seamfast.plans import Plan
from seamfast.reels import Reel
from seamfast.rules import Rules, breaches
from seamfast.standings import broken_at_end, gone_on, horizon, standing_of
from seamfast.ways import row_length, ways
from tests.samples import Case, example_plan, full_plan, random_plans, seen_showings
from tests.test_rules import random_rules


def told_standing(plan, book, rules, way):
    """The standing of a way, from its showings and the captions carried for it."""
    most = horizon(plan, book, rules) + 1
    end = row_length(plan, way)
    pending = None
    edge = end
    shown = seen_showings(plan, way)
    if shown and shown[-1][2] == end and end - shown[-1][1] < book.least * plan.grain:
        pending = (shown[-1][0], end - shown[-1][1])
        edge = shown[-1][1]
    captions = carried(plan, book, way)
    if not captions:
        return (way[-1], pending, None, ())
    last = captions[-1]
    ends = {cue: over for cue, _, over in captions if cue != last[0]}
    ages = [(cue, edge - over) for cue, over in ends.items() if edge - over < rules.again * plan.grain]
    carrying = (last[0], min(last[2] - last[1], most), min(edge - last[2], most))
    return (way[-1], pending, carrying, tuple(sorted(ages)))


class Slow:
    """Goes on by a piece grain by grain, in the words of [15]."""

    def __init__(self, plan, book, rules, standing):
        self.plan, self.rules = plan, rules
        self.least, self.close = book.least * plan.grain, book.close * plan.grain
        self.gap_least, self.again = rules.gap * plan.grain, rules.again * plan.grain
        self.most = horizon(plan, book, rules) + 1
        _, pending, carrying, ages = standing or (None, None, None, ())
        self.pending = list(pending) if pending else None
        self.carrying = list(carrying) if carrying else None
        self.ages = dict(ages)
        self.words = set()
        self.on_screen = False

    def grow(self, grains):
        for cue in self.ages:
            self.ages[cue] += grains

    def leave_out(self):
        _, length = self.pending
        self.pending = None
        self.grow(length)
        if self.carrying:
            self.carrying[2] += length

    def judge(self, cue, length):
        signs = len(self.plan.reel[cue][3])
        if self.rules.long is not None and length > self.rules.long * self.plan.grain:
            self.words.add("long")
        if self.rules.pace is not None:
            above, below = self.rules.pace
            if signs * below * self.plan.grain > above * length:
                self.words.add("pace")
        if length < self.rules.short * self.plan.grain:
            self.words.add("short")

    def take_up(self):
        cue, length = self.pending
        self.pending = None
        self.on_screen = True
        if self.carrying and self.carrying[0] == cue and self.carrying[2] < self.close:
            self.carrying = [cue, self.carrying[1] + self.carrying[2] + length, 0]
            self.grow(length)
            return
        if self.carrying:
            if self.carrying[2] < self.close:
                self.carrying[1] += self.carrying[2]
                self.carrying[2] = 0
            self.judge(self.carrying[0], self.carrying[1])
            self.ages[self.carrying[0]] = self.carrying[2]
            if 0 < self.carrying[2] < self.gap_least:
                self.words.add("gap")
        if self.ages.pop(cue, self.again) < self.again:
            self.words.add("again")
        self.carrying = [cue, length, 0]
        self.grow(length)

    def go(self, name):
        strip = self.plan.strip_of(name)
        shown = self.plan.shown_of(name)
        for grain in range(shown):
            on = [cue for cue, begun, over in strip if begun <= grain < over]
            new = [cue for cue, begun, _ in strip if begun == grain]
            if grain == 0 and new and self.pending and self.pending[0] == new[0]:
                new = []
            elif grain == 0 and new and not self.pending and self.carrying and self.carrying[::2] == [new[0], 0]:
                self.on_screen = True
                new = []
            elif grain == 0 and self.pending:
                self.leave_out()
            if new:
                self.on_screen = False
                self.pending = [new[0], 0]
                if self.least == 0:
                    self.take_up()
            if not on:
                self.on_screen = False
            self.pass_grain()
            if grain + 1 in [over for _, _, over in strip] and self.pending and grain + 1 < shown:
                self.leave_out()
            if grain + 1 in [over for _, _, over in strip]:
                self.on_screen = False

    def pass_grain(self):
        if self.pending:
            self.pending[1] += 1
            if self.pending[1] >= self.least:
                self.take_up()
            return
        self.grow(1)
        if self.carrying:
            self.carrying[1 if self.on_screen else 2] += 1

    def standing(self, name):
        carrying = None
        if self.carrying:
            carrying = (self.carrying[0], min(self.carrying[1], self.most), min(self.carrying[2], self.most))
        ages = tuple(sorted((cue, age) for cue, age in self.ages.items() if age < self.again))
        return (name, tuple(self.pending) if self.pending else None, carrying, ages)


def slowly_gone_on(plan, book, rules, standing, name):
    """What gone_on tells."""
    slow = Slow(plan, book, rules, standing)
    slow.go(name)
    return slow.standing(name), tuple(sorted(slow.words))


def random_standing(dice, plan, book, rules):
    """Something that has the form of a standing."""
    cues = range(len(plan.reel.cues))
    least = book.least * plan.grain
    again = rules.again * plan.grain
    most = horizon(plan, book, rules) + 1
    pending = None
    if cues and least > 1 and dice.random() < 0.6:
        pending = (dice.choice(cues), dice.randint(1, least - 1))
    carrying = None
    ages = ()
    if cues and dice.random() < 0.8:
        carrying = (dice.choice(cues), dice.randint(1, most), dice.choice((0, 0, dice.randint(0, most))))
        others = [cue for cue in cues if cue != carrying[0] and again and dice.random() < 0.5]
        ages = tuple((cue, dice.randrange(again)) for cue in others)
    return (dice.choice(plan.names), pending, carrying, ages)


class HorizonTest(Case):
    def test_example(self):
        plan = example_plan()
        self.assertEqual(horizon(plan, Book(0, 0), Rules()), 0)
        self.assertEqual(horizon(plan, Book(3, 2), Rules()), 6)
        self.assertEqual(horizon(plan, Book(3, 5), Rules()), 10)
        self.assertEqual(horizon(plan, Book(3, 5), Rules(short=6)), 12)
        self.assertEqual(horizon(plan, Book(3, 5), Rules(short=6, gap=7)), 14)
        self.assertEqual(horizon(plan, Book(3, 5), Rules(short=6, gap=7, again=8)), 16)
        self.assertEqual(horizon(plan, Book(3, 5), Rules(short=6, gap=7, again=8, long=9)), 18)

    def test_pace(self):
        # The longest text has 12 signs: 12 signs at 7 / 2 in a tick of 2 grains need 24 * 2 / 7 grains.
        plan = example_plan()
        self.assertEqual(horizon(plan, Book(0, 0), Rules(pace=(7, 2))), 7)
        self.assertEqual(horizon(plan, Book(0, 0), Rules(pace=(8, 3))), 9)
        self.assertEqual(horizon(plan, Book(0, 0), Rules(pace=(1000, 1))), 1)
        self.assertEqual(horizon(plan, Book(4, 0), Rules(pace=(7, 2))), 8)
        bare = Plan(Reel(5), (("a", 0, 5, 1, 1, "on"),), (), ("a",), ("a",))
        self.assertEqual(horizon(bare, Book(0, 1), Rules(pace=(1, 7))), 1)


class StandingTest(Case):
    def test_example(self):
        plan = example_plan()
        book, rules = Book(1, 2), Rules(gap=3, again=10)
        self.assertEqual(standing_of(plan, book, rules, ("a",)), ("a", None, (1, 8, 0), ((0, 12),)))
        self.assertEqual(standing_of(plan, book, rules, ["a", "c"]), ("c", None, (1, 8, 0), ((2, 12),)))
        self.assertEqual(standing_of(plan, book, rules, ("a", "b")), ("b", None, (2, 6, 0), ((1, 6),)))
        self.assertEqual(standing_of(plan, Book(5, 0), rules, ("a",)), ("a", (1, 8), None, ()))
        self.assertEqual(standing_of(plan, Book(4, 0), Rules(), ("a",)), ("a", None, (1, 8, 0), ()))

    def test_against_showings_and_captions(self):
        dice = random.Random(36)
        for plan in random_plans(36, 250):
            book = Book(dice.randint(0, 4), dice.randint(0, 5))
            rules = random_rules(dice)
            for number, way in enumerate(ways(plan, 6)):
                if number == 25:
                    break
                standing = standing_of(plan, book, rules, way)
                self.assertEqual(standing, told_standing(plan, book, rules, way))
                self.assertIsInstance(standing[3], tuple)

    def test_broken_words_against_breaches(self):
        dice = random.Random(37)
        for plan in random_plans(37, 250):
            book = Book(dice.randint(0, 4), dice.randint(0, 5))
            rules = random_rules(dice)
            for number, way in enumerate(ways(plan, 6)):
                if number == 25:
                    break
                standing = None
                words = set()
                for name in way:
                    standing, broken = gone_on(plan, book, rules, standing, name)
                    self.assertEqual(broken, tuple(sorted(set(broken))))
                    words |= set(broken)
                words |= set(broken_at_end(plan, book, rules, standing))
                self.assertEqual(words, {word for _, word in breaches(plan, book, rules, way)})

    def test_errors(self):
        plan = example_plan()
        book, rules = Book(1, 2), Rules()
        for way in ((), None, "a", ("a",) * 401):
            self.fails(BadRow, -1, standing_of, plan, book, rules, way)
        self.fails(BadRow, 2, standing_of, plan, book, rules, ("b", "b", "d"))
        self.fails(BadWay, 0, standing_of, plan, book, rules, ("b",))
        self.fails(BadWay, 0, standing_of, plan, book, rules, ("c", "b"))
        self.fails(BadWay, 1, standing_of, plan, book, rules, ("a", "a", "c", "c"))
        self.fails(BadWay, 3, standing_of, plan, book, rules, ("a", "c", "a", "a"))
        self.assertEqual(standing_of(plan, book, rules, ("a", "c") * 200)[0], "c")
        for name in ("d", "", None, True, ("a",), ["a"]):
            self.fails(Unknown, (name,), gone_on, plan, book, rules, None, name)


class GoneOnTest(Case):
    def test_example(self):
        plan = example_plan()
        book, rules = Book(1, 2), Rules(gap=3, again=10)
        standing, words = gone_on(plan, book, rules, None, "a")
        self.assertEqual((standing, words), (("a", None, (1, 8, 0), ((0, 12),)), ("gap",)))
        self.assertEqual(gone_on(plan, book, rules, standing, "c"), (("c", None, (1, 8, 0), ((2, 12),)), ("again", "gap")))

    def test_where_no_arrow_leads(self):
        plan = example_plan()
        standing, words = gone_on(plan, Book(0, 0), Rules(again=20), ("b", None, (2, 6, 0), ((1, 6),)), "b")
        self.assertEqual((standing, words), (("b", None, (2, 6, 0), ((1, 8),)), ("again",)))

    def test_words_are_ascending_and_different(self):
        plan = example_plan()
        rules = Rules(short=5, gap=10, again=200, pace=(1, 1))
        _, words = gone_on(plan, Book(0, 0), rules, ("a", None, (1, 1, 3), ((0, 1), (2, 5))), "a")
        self.assertEqual(words, ("again", "gap", "pace", "short"))
        _, words = gone_on(plan, Book(0, 0), Rules(long=3), ("a", None, (1, 7, 3), ()), "c")
        self.assertEqual(words, ("long",))

    def test_lists_are_taken_as_tuples(self):
        plan = example_plan()
        book, rules = Book(5, 3), Rules(again=20)
        passed = ["b", [1, 3], [2, 6, 1], [[0, 5]]]
        told = gone_on(plan, book, rules, ("b", (1, 3), (2, 6, 1), ((0, 5),)), "b")
        self.assertEqual(gone_on(plan, book, rules, passed, "b"), told)
        self.assertEqual(passed, ["b", [1, 3], [2, 6, 1], [[0, 5]]])
        self.assertEqual(broken_at_end(plan, book, Rules(short=4), passed), ("short",))

    def test_least_zero(self):
        plan = example_plan()
        self.assertEqual(gone_on(plan, Book(0, 0), Rules(), None, "b"), (("b", None, (2, 1, 0), ()), ()))
        self.assertEqual(gone_on(plan, Book(0, 0), Rules(again=9), None, "b"), (("b", None, (2, 6, 0), ((1, 8),)), ()))

    def test_times_beyond_the_horizon(self):
        plan = full_plan(3)
        quiet = Plan(Reel(20, ((0, 4, "a", "x"),)), (("a", 0, 4, 1, 1, "on"), ("b", 4, 9, 1, 1, "on")),
                     (("a", "a"), ("a", "b"), ("b", "b")), ("a",), ("b",))
        book, rules = Book(1, 2), Rules(long=7)
        self.assertEqual(horizon(quiet, book, rules), 7)
        for many, length in ((1, 4), (2, 8), (3, 8), (9, 8)):
            self.assertEqual(standing_of(quiet, book, rules, ("a",) * many), ("a", None, (0, length, 0), ()))
        for many, gap in ((1, 5), (2, 8), (7, 8)):
            way = ("a",) + ("b",) * many
            self.assertEqual(standing_of(quiet, book, rules, way), ("b", None, (0, 4, gap), ()))
        self.assertEqual(gone_on(plan, Book(0, 0), Rules(), ("a", None, (1, 1, 1), ()), "a")[0][2], (0, 1, 0))

    def test_what_is_pending(self):
        reel = Reel(20, ((2, 18, "a", "x"),))
        pieces = (("a", 4, 6, 1, 1, "on"), ("b", 16, 20, 1, 1, "on"), ("c", 18, 20, 1, 1, "on"))
        arrows = [(one, two) for one in "abc" for two in "abc"]
        plan = Plan(reel, pieces, arrows, ("a",), ("a",))
        book, rules = Book(5, 4), Rules(again=9)
        self.assertEqual(gone_on(plan, book, rules, None, "a")[0], ("a", (0, 2), None, ()))
        self.assertEqual(gone_on(plan, book, rules, ("a", (0, 2), None, ()), "a")[0], ("a", (0, 4), None, ()))
        self.assertEqual(gone_on(plan, book, rules, ("a", (0, 4), None, ()), "a")[0], ("a", None, (0, 6, 0), ()))
        self.assertEqual(gone_on(plan, book, rules, ("a", (0, 2), None, ()), "b")[0], ("b", None, None, ()))
        self.assertEqual(gone_on(plan, book, rules, ("a", (0, 3), None, ()), "b")[0], ("b", None, (0, 5, 2), ()))
        self.assertEqual(gone_on(plan, book, rules, ("a", (0, 2), None, ()), "c")[0], ("c", None, None, ()))
        # What is pending with the cue of the open showing is brought together with it, or begins anew.
        self.assertEqual(gone_on(plan, book, rules, ("a", (0, 4), (0, 3, 3), ()), "a"), (("a", None, (0, 10, 0), ()), ()))
        self.assertEqual(
            gone_on(plan, book, rules, ("a", (0, 4), (0, 3, 4), ()), "a"), (("a", None, (0, 6, 0), ()), ("again",)),
        )
        self.assertEqual(gone_on(plan, book, rules, ("a", (0, 4), (0, 3, 3), ()), "c")[0], ("c", None, (0, 3, 9), ()))

    def test_against_going_slowly(self):
        dice = random.Random(38)
        for plan in random_plans(38, 400):
            book = Book(dice.randint(0, 5), dice.randint(0, 5))
            rules = random_rules(dice)
            for name in plan:
                self.assertEqual(gone_on(plan, book, rules, None, name), slowly_gone_on(plan, book, rules, None, name))
                for _ in range(4):
                    standing = random_standing(dice, plan, book, rules)
                    self.assertEqual(
                        gone_on(plan, book, rules, standing, name), slowly_gone_on(plan, book, rules, standing, name),
                    )

    def test_broken_at_end(self):
        plan = example_plan()
        book = Book(1, 2)
        self.assertEqual(broken_at_end(plan, book, Rules(short=9, long=1, pace=(1, 1)), ("a", None, None, ())), ())
        rules = Rules(short=4, long=6, pace=(5, 1))
        for length, words in ((4, ("pace", "short")), (5, ("short",)), (8, ()), (12, ()), (13, ("long",))):
            self.assertEqual(broken_at_end(plan, book, rules, ("a", None, (0, length, 0), ())), words)
        self.assertEqual(broken_at_end(plan, book, Rules(gap=9, again=9), ("a", None, (0, 1, 3), ((1, 2),))), ())
        self.assertEqual(
            broken_at_end(plan, book, Rules(short=7, long=6, pace=(1, 1)), ("a", None, (0, 13, 0), ())),
            ("long", "pace", "short"),
        )
