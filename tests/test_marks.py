"""[34]: marks, lots, the plan under a lot."""

import inspect
import itertools
import random

from seamfast.errors import BadLot, BadMark, Unreached
from seamfast.marks import lots, plan_under, price_of
from seamfast.plans import Plan
from seamfast.reels import Reel
from tests.samples import Case, example_plan, random_plans, rich_plans, turned

MARKS = (
    ("drop", 1, 3), ("text", 1, "late", 2), ("bar", "a", "c", 0), ("bar", "a", "b", 5), ("text", 2, "so we go", 0),
    ("drop", 0, 100),
)


def ring_plan():
    """A plan in which some arrows can be taken out, but not all."""
    reel = Reel(6, ((0, 2, "ann", "one"), (2, 3, "bob", "two"), (4, 6, "ann", "three")))
    pieces = (("a", 0, 3, 1, 1, "on"), ("b", 2, 6, 1, 1, "on"), ("c", 1, 5, 1, 1, "back"))
    arrows = (("a", "b"), ("a", "c"), ("b", "c"), ("c", "b"), ("b", "b"))
    return Plan(reel, pieces, arrows, ("a",), ("b", "c"))


def slow_plan(plan, marks, lot):
    """The plan under a lot, None if the lot is not fit."""
    told = [marks[number] for number in lot]
    about = [mark[1:3] if mark[0] == "bar" else mark[1] for mark in told]
    if any(about.count(one) > 1 for one in about):
        return None
    cues = []
    for number, cue in enumerate(plan.reel.cues):
        text = cue[3]
        dropped = False
        for mark in told:
            if mark[:2] == ("drop", number):
                dropped = True
            elif mark[:2] == ("text", number):
                text = mark[2]
        if not dropped:
            cues.append(cue[:3] + (text,))
    arrows = [arrow for arrow in plan.arrows if not any(mark[:3] == ("bar",) + arrow for mark in told)]
    try:
        return Plan(Reel(plan.reel.length, cues), plan.pieces, arrows, plan.starts, plan.ends)
    except Unreached:
        return None


def slow_lots(plan, marks):
    """All fit lots, in their order."""
    numbers = range(len(marks))
    found = [lot for many in range(len(marks) + 1) for lot in itertools.combinations(numbers, many)]
    found = [lot for lot in found if slow_plan(plan, marks, lot) is not None]
    return sorted(found, key=lambda lot: (sum(marks[number][-1] for number in lot), len(lot), lot))


def random_marks(dice, plan, most=6):
    """Some marks for a plan."""
    marks = []
    for _ in range(dice.randint(1, most)):
        kind = dice.choice(["bar"] * bool(plan.arrows) + ["drop", "text"] * bool(len(plan.reel)))
        price = dice.choice((0, 0, 1, 1, 2, 3, 100))
        if kind == "bar":
            marks.append(("bar",) + dice.choice(plan.arrows) + (price,))
        elif kind == "drop":
            marks.append(("drop", dice.randrange(len(plan.reel)), price))
        else:
            text = dice.choice(("x", "so", "ann: yes", "a much longer text than this"))
            marks.append(("text", dice.randrange(len(plan.reel)), text, price))
    return tuple(marks)


def marked_plans(seed, many):
    """Plans with a cue or an arrow."""
    plans = random_plans(seed, many, 3) + rich_plans(seed + 1, many, 3)
    return turned([plan for plan in plans if len(plan.reel) + len(plan.arrows) > 0])


class MarksTest(Case):
    def test_good(self):
        plan = example_plan()
        self.assertEqual(price_of(plan, MARKS, ()), 0)
        for number, price in ((0, 3), (1, 2), (4, 0), (5, 100)):
            self.assertEqual(price_of(plan, [list(mark) for mark in MARKS], [number]), price)

    def test_how_many(self):
        plan = example_plan()
        for many in (1, 6):
            self.assertEqual(price_of(plan, (("drop", 0, 7),) * many, (0,)), 7)
        for marks in ((), [], (("drop", 0, 7),) * 7, None, 5, "drop", True, {}, ("drop", 0, 7)[:0]):
            self.fails(BadMark, -1, price_of, plan, marks, (0,))
            self.fails(BadMark, -1, plan_under, plan, marks, (0,))
            self.fails(BadMark, -1, lambda: list(lots(plan, marks)))
        # -1 goes ahead of a bad mark.
        self.fails(BadMark, -1, price_of, plan, (None,) * 7, (0,))

    def test_bad(self):
        plan = example_plan()
        bad = [
            None, 5, "drop", (), ("drop",), ("drop", 0), ("drop", 0, 1, 1), ("drop", 3, 1), ("drop", -1, 1),
            ("drop", True, 1), ("drop", "a", 1), ("drop", 0, 101), ("drop", 0, -1), ("drop", 0, True), ("drop", 0, None),
            ("drop", 0, "1"), ("drop", 0, 1.0), ("Drop", 0, 1), ("text", 0, "x"), ("text", 0, 1), ("text", 0, "x", 101),
            ("text", 0, "x", -1), ("text", 0, "x", True), ("text", 3, "x", 1), ("text", -1, "x", 1),
            ("text", False, "x", 1), ("text", 0, "", 1), ("text", 0, " x", 1), ("text", 0, "x%", 1),
            ("text", 0, "x" * 61, 1), ("text", 0, 5, 1), ("text", 0, "x", 1, 1), ("bar", "a", 1), ("bar", "a", "b"),
            ("bar", "b", "a", 1), ("bar", "a", "a", 1), ("bar", "a", "d", 1), ("bar", "a", "b", 101), ("bar", "a", "b", -1),
            ("bar", "a", "b", False), ("bar", ("a", "b"), 1), ("bar", "a", None, 1), ("bar", 0, 1, 1), ("other", 0, 1), ("cut", "a", "b", 1),
            (None, 0, 1), (("drop",), 0, 1), {}, ("bar", "a", "b", 1, 1), (1, 1, 1), ("text", 0, ("x",), 1),
        ]
        for mark in bad:
            self.fails(BadMark, 0, price_of, plan, (mark,), (0,))
            self.fails(BadMark, 2, plan_under, plan, MARKS[:2] + (mark, None), None)
            self.fails(BadMark, 1, lambda: next(lots(plan, [MARKS[0], mark])))
        for mark in (("drop", 2, 0), ("drop", 2, 100), ("text", 2, "x" * 60, 100), ("text", 0, "~", 0), ("bar", "c", "a", 100)):
            self.assertEqual(price_of(plan, (mark,), ()), 0)

    def test_without_cues_and_arrows(self):
        plan = Plan(Reel(5), (("a", 0, 1, 1, 1, "on"),), (), ("a",), ("a",))
        for mark in (("drop", 0, 1), ("text", 0, "x", 1), ("bar", "a", "a", 1)):
            self.fails(BadMark, 0, price_of, plan, (mark,), ())


class LotTest(Case):
    def test_example(self):
        plan = ring_plan()
        marks = (("bar", "a", "b", 2), ("bar", "a", "c", 1), ("bar", "b", "b", 0), ("drop", 0, 1), ("text", 0, "x", 1))
        self.assertEqual(list(lots(plan, marks)), [
            (), (2,), (1,), (3,), (4,), (1, 2), (2, 3), (2, 4), (0,), (0, 2), (1, 3), (1, 4), (1, 2, 3), (1, 2, 4),
            (0, 3), (0, 4), (0, 2, 3), (0, 2, 4),
        ])

    def test_equal_prices(self):
        plan = example_plan()
        marks = (("drop", 2, 1), ("drop", 1, 2), ("drop", 0, 1))
        self.assertEqual(list(lots(plan, marks)), [(), (0,), (2,), (1,), (0, 2), (0, 1), (1, 2), (0, 1, 2)])
        marks = (("drop", 2, 0), ("drop", 1, 0), ("drop", 0, 0))
        self.assertEqual(list(lots(plan, marks)), [(), (0,), (1,), (2,), (0, 1), (0, 2), (1, 2), (0, 1, 2)])

    def test_that_are_not_fit(self):
        plan = example_plan()
        for lot in ((0, 1), (3,), (2,), (2, 3), (0, 2)):
            self.fails(BadLot, (lot,), plan_under, plan, MARKS, lot)
            self.fails(BadLot, (lot,), price_of, plan, MARKS, lot)
        marks = (("bar", "a", "c", 1), ("bar", "a", "c", 2), ("text", 0, "x", 1), ("text", 0, "x", 1), ("drop", 0, 0))
        for lot in ((0, 1), (2, 3), (2, 4), (3, 4), (2, 3, 4), (0,), (1,)):
            self.fails(BadLot, (lot,), price_of, plan, marks, lot)
        self.assertEqual(list(lots(plan, marks)), [(), (4,), (2,), (3,)])
        plan = ring_plan()
        marks = (("bar", "a", "c", 1), ("bar", "a", "c", 2), ("bar", "b", "c", 1))
        self.assertEqual(list(lots(plan, marks)), [(), (0,), (2,), (1,)])
        self.fails(BadLot, ((0, 2),), price_of, plan, marks, (0, 2))

    def test_no_lots(self):
        plan = example_plan()
        for lot in (None, 5, "", "0", (6,), (-1,), (0, 0), (4, 0), (True,), (0, True), (False,), ("0",), (1.0,), ((0,),), {}, 0):
            self.fails(BadLot, (lot,), plan_under, plan, MARKS, lot)
            self.fails(BadLot, (lot,), price_of, plan, MARKS, lot)
        self.fails(BadLot, ([0, 1],), price_of, plan, MARKS, [0, 1])
        self.assertEqual(price_of(plan, MARKS, [0, 4, 5]), 103)

    def test_told_one_by_one(self):
        plan = example_plan()
        told = lots(plan, MARKS)
        self.assertTrue(inspect.isgenerator(told))
        self.assertEqual(next(told), ())
        self.assertEqual(next(told), (4,))
        bad = lots(plan, ())
        self.fails(BadMark, -1, lambda: next(bad))
        self.assertTrue(inspect.isgenerator(lots(None, None)))

    def test_against_all_lots(self):
        dice = random.Random(311)
        for plan in marked_plans(311, 100):
            marks = random_marks(dice, plan)
            told = list(lots(plan, marks))
            self.assertEqual(told, slow_lots(plan, marks))
            for lot in told:
                self.assertEqual(plan_under(plan, marks, lot), slow_plan(plan, marks, lot))
                self.assertEqual(price_of(plan, marks, lot), sum(marks[number][-1] for number in lot))
            for many in range(len(marks) + 1):
                for lot in itertools.combinations(range(len(marks)), many):
                    if lot not in told:
                        self.fails(BadLot, (lot,), plan_under, plan, marks, lot)


class PlanUnderTest(Case):
    def test_dropped_cues(self):
        plan = example_plan()
        under = plan_under(plan, (("drop", 1, 1), ("text", 2, "no", 1)), (0,))
        self.assertEqual(under.reel.cues, (plan.reel[0], plan.reel[2]))
        self.assertEqual(under.sends_of("b"), ((1, 4),))
        self.assertEqual(under.strip_of("c"), ((1, 0, 4),))
        self.assertEqual((under.pieces, under.arrows, under.starts, under.ends), (
            plan.pieces, plan.arrows, plan.starts, plan.ends,
        ))

    def test_a_cue_dropped_and_another_given_a_text(self):
        plan = example_plan()
        marks = (("text", 2, "no", 1), ("drop", 0, 1), ("drop", 1, 1))
        self.assertEqual(plan_under(plan, marks, (0, 1)).reel.cues, (plan.reel[1], (14, 20, "ann", "no")))
        self.assertEqual(plan_under(plan, marks, (0, 1, 2)).reel.cues, ((14, 20, "ann", "no"),))
        # Done in another order the same comes out.
        for order in itertools.permutations(marks):
            self.assertEqual(plan_under(plan, order, (0, 1, 2)).reel.cues, ((14, 20, "ann", "no"),))

    def test_the_text_that_it_has(self):
        plan = example_plan()
        self.assertEqual(plan_under(plan, MARKS, (4,)), plan)
        self.assertEqual(plan_under(plan, MARKS, ()), plan)

    def test_pieces_that_lose_their_last_send(self):
        plan = example_plan()
        under = plan_under(plan, (("drop", 2, 1),), (0,))
        self.assertEqual((under.sends_of("b"), under.strip_of("b")), ((), ((1, 0, 2),)))

    def test_arrows(self):
        plan = ring_plan()
        under = plan_under(plan, (("bar", "b", "b", 1), ("bar", "c", "b", 1), ("drop", 0, 1)), (0, 1))
        self.assertEqual(under.arrows, (("a", "b"), ("a", "c"), ("b", "c")))
        self.assertEqual(under.reel, plan.reel)

    def test_what_was_passed_stays(self):
        plan = example_plan()
        marks, lot = [["drop", 1, 3], ["text", 2, "no", 1]], [0, 1]
        plan_under(plan, marks, lot)
        self.assertEqual((marks, lot), ([["drop", 1, 3], ["text", 2, "no", 1]], [0, 1]))
        self.assertEqual(plan, example_plan())
