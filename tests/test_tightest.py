"""[18]: the tightest rules that all versions keep."""

import random

from seamfast.allversions import AllVersions
from seamfast.books import Book, carried
from seamfast.errors import BadNumber, TooMany
from seamfast.forms import fraction
from seamfast.plans import Plan
from seamfast.reels import Reel
from seamfast.rules import Rules, breaches
from seamfast.tightest import Tightest
from seamfast.ways import versions
from tests.samples import Case, example_plan, random_plans, rich_plans
from tests.test_allversions import quiet_plan

WORDS = ("short", "long", "gap", "again")


def parts(tightest):
    """All parts of tightest rules."""
    return tightest.short, tightest.long, tightest.gap, tightest.again, tightest.pace


def timed_plan(*cues, length=2000, ring=False):
    """A plan of one piece that shows a whole reel with cues at these times."""
    reel = Reel(length, [(start, end, "a", text) for start, end, text in cues])
    return Plan(reel, (("a", 0, length, 1, 1, "on"),), (("a", "a"),) if ring else (), ("a",), ("a",))


class PartsTest(Case):
    def test_example(self):
        plan = example_plan()
        tightest = Tightest(plan, Book(1, 2))
        # The shortest caption has 4 grains, for 8 signs, the longest one 12; gaps of 4; cue 1 comes again behind 8.
        self.assertEqual(parts(tightest), (2, 6, 2, 4, (4, 1)))
        self.assertEqual(tightest.bar("short"), ("a", "c", "a", "b"))
        self.assertEqual(tightest.bar("long"), ("a", "b"))
        self.assertEqual(tightest.bar("gap"), ("a", "b"))
        self.assertEqual(tightest.bar("again"), ("a", "c", "a", "b"))

    def test_nothing_is_carried(self):
        tightest = Tightest(example_plan(), Book(100, 0))
        self.assertEqual(parts(tightest), (200, 1, 200, 200, (0, 1)))
        for word in WORDS:
            self.assertIsNone(tightest.bar(word))

    def test_parts_that_reach_their_bounds(self):
        for length, short, long in ((199, 199, 199), (200, 200, 200), (201, 200, None), (1, 1, 1)):
            tightest = Tightest(timed_plan((3, 3 + length, "x")), Book(0, 0))
            self.assertEqual((tightest.short, tightest.long), (short, long))
            self.assertEqual(tightest.bar("short"), ("a",) if short < 200 else None)
            self.assertEqual(tightest.bar("long"), ("a",) if long != 1 else None)
        for gap, told in ((1, 1), (199, 199), (200, 200), (201, 200), (0, 200)):
            tightest = Tightest(timed_plan((0, 5, "x"), (5 + gap, 9 + gap, "y")), Book(0, 0))
            self.assertEqual(tightest.gap, told)
            self.assertEqual(tightest.bar("gap"), ("a",) if told < 200 else None)
        for length, told in ((199, 196), (202, 199), (203, 200), (204, 200)):
            tightest = Tightest(timed_plan((1, 4, "x"), length=length, ring=True), Book(0, 0))
            self.assertEqual((tightest.again, tightest.gap), (told, told))
            self.assertEqual(tightest.bar("again"), ("a", "a") if told < 200 else None)

    def test_parts_that_are_no_whole_ticks(self):
        reel = Reel(20, ((2, 5, "ann", "four"), (6, 9, "bob", "words")))
        plan = Plan(reel, (("a", 0, 9, 1, 2, "on"), ("b", 1, 3, 2, 3, "on")), (("a", "a"),), ("a", "b"), ("a", "b"))
        tightest = Tightest(plan, Book(0, 0))
        # In a the cues take a tick and a half each, half a tick lies between, and each comes again behind 3 ticks.
        # In b two thirds of a tick are shown.
        self.assertEqual(parts(tightest), (0, 2, 0, 3, (6, 1)))
        self.assertEqual(tightest.bar("short"), ("b",))
        self.assertEqual(tightest.bar("long"), ("a",))
        self.assertEqual(tightest.bar("gap"), ("a",))

    def test_long_none(self):
        plan = Plan(Reel(20, ((0, 10, "ann", "x"),)), (("a", 2, 4, 1, 1, "on"),), (("a", "a"),), ("a",), ("a",))
        tightest = Tightest(plan, Book(0, 0))
        self.assertEqual(parts(tightest), (2, None, 200, 200, (1, 2)))
        self.assertEqual(tightest.bar("long"), ("a",) * 101)
        plan = timed_plan((0, 1500, "x"))
        self.assertEqual(Tightest(plan, Book(0, 0)).long, None)
        self.assertEqual(Tightest(plan, Book(0, 0)).bar("long"), ("a",))

    def test_gaps_beyond_the_horizon(self):
        # Four pieces without captions lie between those of a and b at least; in c the time since is no longer told.
        reel = Reel(20, ((0, 4, "ann", "good evening"), (12, 16, "bob", "late")))
        pieces = [("a", 0, 5, 1, 1, "on"), ("b", 11, 17, 1, 1, "on")] + [(name, 6, 9, 1, 1, "on") for name in "cdef"]
        arrows = (("a", "c"), ("c", "d"), ("d", "d"), ("d", "e"), ("e", "f"), ("f", "b"), ("b", "c"), ("f", "a"))
        plan = Plan(reel, pieces, arrows, ("a",), ("b",))
        tightest = Tightest(plan, Book(1, 0))
        # From a to a: 1 + 12 ticks, from a to b: 1 + 12 + 1, from b to a 13, from b to b 14.
        self.assertEqual(parts(tightest), (4, 4, 13, 13, (3, 1)))
        self.assertEqual(tightest.bar("gap"), ("a", "c", "d", "e", "f", "a", "c", "d", "e", "f", "b"))

    def test_a_gap_that_is_least_on_a_way_of_more_pieces(self):
        # Behind a comes l, which is long, or p, q and r, which are short; then s and u, where the time is told no more.
        reel = Reel(200, ((0, 4, "ann", "good evening"), (190, 194, "bob", "late")))
        pieces = [("a", 0, 4, 1, 1, "on"), ("l", 10, 110, 1, 1, "on"), ("t", 190, 194, 1, 1, "on")]
        pieces += [(name, 120, 121, 1, 1, "on") for name in "pqrsu"]
        arrows = (("a", "l"), ("a", "p"), ("p", "q"), ("q", "r"), ("r", "s"), ("l", "s"), ("s", "u"), ("u", "t"), ("u", "a"))
        plan = Plan(reel, pieces, arrows, ("a",), ("t",))
        tightest = Tightest(plan, Book(0, 0))
        self.assertEqual((tightest.gap, tightest.again), (5, 5))
        self.assertEqual(tightest.bar("gap"), ("a", "p", "q", "r", "s", "u", "t"))

    def test_pace(self):
        plan = timed_plan((0, 3, "fifteen signs x"), (4, 9, "a"), (10, 17, "thirty five signs are in this text."))
        self.assertEqual(Tightest(plan, Book(0, 0)).pace, (5, 1))
        plan = timed_plan((0, 4, "fifteen signs x"), (4, 9, "a"), (10, 19, "thirty five signs are in this text."))
        self.assertEqual(Tightest(plan, Book(0, 0)).pace, (35, 9))
        self.assertEqual(Tightest(plan, Book(8, 0)).pace, (35, 9))
        self.assertEqual(Tightest(plan, Book(5, 0)).pace, (35, 9))
        self.assertEqual(Tightest(plan, Book(10, 0)).pace, (0, 1))

    def test_held_captions_come_again_sooner(self):
        plan = timed_plan((0, 2, "x"), (3, 5, "y"), length=9, ring=True)
        self.assertEqual(Tightest(plan, Book(0, 0)).again, 7)
        self.assertEqual(Tightest(plan, Book(0, 2)).again, 6)
        self.assertEqual(Tightest(plan, Book(0, 5)).again, 3)
        self.assertEqual(Tightest(plan, Book(0, 5)).gap, 200)

    def test_other_words(self):
        tightest = Tightest(example_plan(), Book(1, 2))
        for word in ("pace", "", "Short", None, 5, True, ("short",), ["gap"]):
            self.fails(BadNumber, (word,), tightest.bar, word)


class AgainstVersionsTest(Case):
    def test_each_part_by_itself(self):
        dice = random.Random(61)
        seen = {}
        for plan in random_plans(61, 120, 3) + rich_plans(62, 200, 3):
            book = Book(dice.randint(0, 3), dice.randint(0, 5))
            try:
                tightest = Tightest(plan, book)
            except TooMany:
                continue
            for word in WORDS:
                try:
                    self.check_word(plan, book, tightest, word, seen)
                except TooMany:
                    seen["many"] = seen.get("many", 0) + 1
            self.check_pace(plan, book, tightest)
        for word in WORDS:
            self.assertGreater(seen[word], 30)
        self.assertGreater(seen["many"], 5)

    def check_word(self, plan, book, tightest, word, seen):
        """All versions keep the part; the bar is the least version that breaks it one tighter."""
        told = getattr(tightest, word)
        bar = tightest.bar(word)
        if told is not None:
            self.assertIs(bool(AllVersions(plan, book, Rules(**{word: told}))), True)
        tighter = 200 if told is None else told + (-1 if word == "long" else 1)
        if tighter in (0, 201):
            self.assertIsNone(bar)
            return
        rules = Rules(**{word: tighter})
        self.assertIs(bool(AllVersions(plan, book, rules)), False)
        self.assertGreater(len(breaches(plan, book, rules, bar)), 0)
        if len(bar) <= 7:
            broken = [version for version in versions(plan, len(bar)) if breaches(plan, book, rules, version)]
            self.assertEqual(bar, broken[0])
        seen[word] = seen.get(word, 0) + 1

    def check_pace(self, plan, book, tightest):
        """The pace is that of the shortest showing for its signs."""
        fastest = 0
        for version in versions(plan, 7):
            for cue, begun, over in carried(plan, book, version):
                fastest = max(fastest, len(plan.reel[cue][3]) * plan.grain / (over - begun))
        above, below = tightest.pace
        self.assertLessEqual(fastest, above / below + 1e-9)
        if above == 0:
            self.assertEqual(fastest, 0)
            return
        slower = fraction(above * 10 ** 6 - 1, below * 10 ** 6)
        for pace in (tightest.pace, slower):
            try:
                self.assertIs(bool(AllVersions(plan, book, Rules(pace=pace))), pace == tightest.pace)
            except TooMany:
                continue


class BoundTest(Case):
    def test_as_many_standings_as_are_let(self):
        reel = Reel(20, ((0, 4, "ann", "good evening"),))
        pieces = [("a", 0, 4, 1, 4, "on"), ("b", 4, 5, 1, 4, "on")]
        pieces += [(name, 6, 7, 1, 1, "on") for name in "cde"]
        arrows = (("a", "b"), ("b", "b"))
        # One for a, 397 for b, one for each of the others.
        plan = Plan(reel, pieces[:4], arrows, ("a", "c", "d"), ("b", "c", "d"))
        self.assertEqual(len(AllVersions(plan, Book(0, 99), Rules())), 400)
        self.assertEqual(parts(Tightest(plan, Book(0, 99))), (1, 1, 200, 200, (12, 1)))
        plan = Plan(reel, pieces, arrows, ("a", "c", "d", "e"), ("b", "c", "d", "e"))
        self.fails(TooMany, "standing", Tightest, plan, Book(0, 99))

    def test_too_many_for_a_bar_alone(self):
        # For gap 200 and again 200 there are more standings than without demands.
        plan = quiet_plan()
        tightest = Tightest(plan, Book(0, 0))
        self.assertEqual(parts(tightest), (2, 2, 200, 200, (6, 1)))
        self.assertEqual([tightest.bar(word) for word in ("short", "long", "gap", "again")], [("a", "b"), ("a", "b"), None, None])
        reel = Reel(2000, ((0, 4, "ann", "good evening"), (1900, 1904, "bob", "late")))
        pieces = [("a", 0, 4, 1, 6, "on"), ("b", 4, 5, 1, 6, "on"), ("c", 5, 600, 1, 5, "on"), ("d", 1900, 1904, 1, 1, "on")]
        arrows = (("a", "b"), ("b", "b"), ("b", "c"), ("c", "d"))
        plan = Plan(reel, pieces, arrows, ("a",), ("d",))
        tightest = Tightest(plan, Book(0, 0))
        self.assertEqual((tightest.short, tightest.gap, tightest.again), (0, 119, 200))
        self.fails(TooMany, "standing", tightest.bar, "gap")
        self.assertEqual(tightest.bar("short"), ("a", "b", "c", "d"))
