"""[13]: rules and breaches."""

import random

from seamfast.books import Book, carried
from seamfast.errors import BadNumber, BadRow
from seamfast.plans import Plan
from seamfast.reels import Reel
from seamfast.rules import Rules, breaches
from tests.samples import Case, example_plan, random_plans, random_row

ROW = ("a", "c", "a", "b")
PLAIN = Book(0, 0)


def random_rules(dice):
    """Rules with some demands."""
    return Rules(
        short=dice.choice((0, 0, 1, 2, 4)), long=dice.choice((None, None, 3, 5, 9)), gap=dice.choice((0, 0, 1, 2, 3)),
        again=dice.choice((0, 0, 2, 5, 9)), pace=dice.choice((None, None, (2, 1), (5, 2), (7, 3))),
    )


def tried_breaches(plan, book, rules, row):
    """The breaches of a row, word by word."""
    shown = carried(plan, book, row)
    found = []
    for number, (cue, begun, over) in enumerate(shown):
        ahead = shown[:number]
        ticks = plan.grain
        signs = len(plan.reel[cue][3])
        if any(other == cue and begun - end < rules.again * ticks for other, _, end in ahead):
            found.append((number, "again"))
        if ahead and 0 < begun - ahead[-1][2] < rules.gap * ticks:
            found.append((number, "gap"))
        if rules.long is not None and over - begun > rules.long * ticks:
            found.append((number, "long"))
        if rules.pace is not None and signs * rules.pace[1] * ticks > rules.pace[0] * (over - begun):
            found.append((number, "pace"))
        if over - begun < rules.short * ticks:
            found.append((number, "short"))
    return tuple(found)


class RulesTest(Case):
    def test_parts(self):
        rules = Rules(short=1, long=200, gap=2, again=3, pace=[7, 2])
        self.assertEqual((rules.short, rules.long, rules.gap, rules.again, rules.pace), (1, 200, 2, 3, (7, 2)))
        rules = Rules.loosest()
        self.assertEqual((rules.short, rules.long, rules.gap, rules.again, rules.pace), (0, None, 0, 0, None))
        self.assertIs(rules == Rules(), True)
        Rules(short=200, long=1, gap=200, again=200, pace=(1, 10 ** 30))

    def test_the_pace_is_kept_as_a_tuple(self):
        pace = [7, 2]
        rules = Rules(pace=pace)
        pace[0] = 5
        self.assertEqual(rules.pace, (7, 2))
        self.assertIsInstance(rules.pace, tuple)

    def test_by_keyword_only(self):
        with self.assertRaises(TypeError):
            Rules(1)

    def test_errors_in_order(self):
        wrong = (-1, 201, True, False, "1", 1.0, (1,), 10 ** 40)
        no_paces = ((0, 1), (2, 4), (1, 0), (-1, 2), (1, -2), (1,), (1, 2, 3), (True, 2), (1, True), "12", 3, True, ())
        for number in wrong + (None,):
            self.fails(BadNumber, "short", Rules, short=number, long=0, gap=-1, again=-1, pace=0)
            self.fails(BadNumber, "gap", Rules, gap=number, again=-1, pace=0)
            self.fails(BadNumber, "again", Rules, again=number, pace=0)
        for number in wrong + (0,):
            self.fails(BadNumber, "long", Rules, long=number, gap=-1, again=-1, pace=0)
        for pace in no_paces:
            self.fails(BadNumber, "pace", Rules, pace=pace)

    def test_equal(self):
        made = {"short": 1, "long": 9, "gap": 2, "again": 3, "pace": (7, 2)}
        for word, other in (("short", 2), ("long", None), ("gap", 3), ("again", 4), ("pace", (7, 3)), ("pace", None)):
            self.assertIs(Rules(**made) == Rules(**dict(made, **{word: other})), False)
        self.assertIs(Rules(**made) == Rules(**made), True)
        for other in (None, 1, (), Book(1, 2)):
            self.assertIs(Rules() == other, False)


class BreachesTest(Case):
    def test_example(self):
        plan = example_plan()
        self.assertEqual(breaches(plan, Book(1, 2), Rules(gap=3), ROW), ((1, "gap"), (3, "gap"), (5, "gap")))
        self.assertEqual(breaches(plan, Book(1, 2), Rules.loosest(), list(ROW)), ())

    def met(self, word, just, broken, cues, row=("a",), told=None):
        """The demand is just met with one number, and broken by this showing with the next one."""
        reel = Reel(100, [(start, end, "a", text) for start, end, text in cues])
        plan = Plan(reel, (("a", 0, 100, 1, 1, "on"), ("b", 0, 1, 1, 3, "on")), (), ("a", "b"), ("a", "b"))
        self.assertEqual(breaches(plan, PLAIN, Rules(**{word: just}), row), ())
        self.assertEqual(breaches(plan, PLAIN, Rules(**{word: broken}), row), told)

    def test_each_word_just_met_and_just_broken(self):
        cues = ((0, 10, "four"), (15, 40, "more"))
        self.met("short", 10, 11, cues, told=((0, "short"),))
        self.met("long", 25, 24, cues, told=((1, "long"),))
        self.met("gap", 5, 6, cues, told=((1, "gap"),))
        self.met("pace", (2, 5), (1, 3), cues, told=((0, "pace"),))
        self.met("pace", (2, 5), (399, 1000), cues, told=((0, "pace"),))
        self.met("again", 90, 91, cues[:1], ("a", "a"), told=((1, "again"),))

    def test_touching_is_no_gap(self):
        reel = Reel(20, ((0, 5, "a", "x"), (5, 9, "b", "y"), (10, 12, "b", "z")))
        plan = Plan(reel, (("a", 0, 20, 1, 1, "on"),), (), ("a",), ("a",))
        self.assertEqual(breaches(plan, PLAIN, Rules(gap=200), ("a",)), ((2, "gap"),))

    def test_again_hangs_on_the_held_end(self):
        reel = Reel(20, ((0, 4, "a", "x"), (6, 9, "b", "y")))
        plan = Plan(reel, (("a", 0, 10, 1, 1, "on"),), (("a", "a"),), ("a",), ("a",))
        self.assertEqual(breaches(plan, Book(0, 0), Rules(again=6), ("a", "a")), ())
        self.assertEqual(breaches(plan, Book(0, 3), Rules(again=4), ("a", "a")), ())
        self.assertEqual(breaches(plan, Book(0, 3), Rules(again=5), ("a", "a")), ((2, "again"),))

    def test_several_of_one_showing(self):
        plan = example_plan()
        rules = Rules(short=5, long=4, gap=3, again=20, pace=(1, 1))
        self.assertEqual(breaches(plan, PLAIN, rules, ("a", "a")), (
            (0, "pace"), (0, "short"), (1, "gap"), (1, "pace"), (1, "short"), (2, "again"), (2, "pace"), (2, "short"),
            (3, "again"), (3, "gap"), (3, "pace"), (3, "short"),
        ))
        self.assertEqual(
            breaches(plan, Book(1, 2), Rules(short=5, long=5, pace=(1, 1)), ROW)[-4:],
            ((5, "long"), (5, "pace"), (6, "pace"), (6, "short")),
        )

    def test_against_the_words(self):
        dice = random.Random(33)
        for plan in random_plans(33, 400):
            book = Book(dice.randint(0, 3), dice.randint(0, 4))
            rules = random_rules(dice)
            row = random_row(dice, plan)
            self.assertEqual(breaches(plan, book, rules, row), tried_breaches(plan, book, rules, row))

    def test_bad_rows(self):
        plan = example_plan()
        for row in ((), None, "a", ("a",) * 401):
            self.fails(BadRow, -1, breaches, plan, PLAIN, Rules(), row)
        self.fails(BadRow, 1, breaches, plan, PLAIN, Rules(), ("a", "d", None))
