"""[34]: which lot mends a plan."""

import random

from seamfast.books import Book
from seamfast.errors import BadLot, BadMark, TooMany
from seamfast.marks import lots, plan_under, price_of
from seamfast.mends import Mends
from seamfast.rules import Rules
from seamfast.wishes import ClearWish, RoomWish, RulesWish
from tests.samples import Case, example_plan
from tests.test_allversions import gentle_rules
from tests.test_lags import random_pace
from tests.test_marks import marked_plans, random_marks, ring_plan

MARKS = (("text", 0, "good", 4), ("text", 0, "good evening", 0), ("drop", 0, 5), ("text", 1, "late", 1))


class Picky:
    """A wish of the tests: it answers by the number of cues, and raises an error for some numbers."""

    def __init__(self, answers):
        self.answers = answers
        self.asked = []

    def __call__(self, plan):
        self.asked.append(len(plan.reel))
        answer = self.answers[len(plan.reel)]
        if answer == "error":
            raise TooMany("standing")
        return answer


def random_wish(dice):
    """Some wish."""
    wishes = [
        RoomWish(random_pace(dice), dice.randint(5, 60)), ClearWish(dice.choice((None, 1, 5))),
        RulesWish(Book(dice.randint(0, 2), dice.randint(0, 3)), gentle_rules(dice)),
    ]
    wish = dice.choice(wishes[:1] * 3 + wishes)
    return wish + dice.choice(wishes) if dice.random() < 0.3 else wish


class MendsTest(Case):
    def test_example(self):
        plan = example_plan()
        mends = Mends(plan, RoomWish((3, 1), 10), MARKS)
        self.assertIs(bool(mends), True)
        self.assertEqual((mends.lot, mends.price), ((0,), 4))
        self.assertEqual(mends.barred, (((), ("a",)), ((1,), ("a",)), ((3,), ("a",)), ((1, 3), ("a",))))
        self.assertEqual((len(mends), tuple(mends)), (4, mends.barred))
        self.assertEqual(plan_under(plan, MARKS, mends.lot).reel[0], (0, 4, "ann", "good"))

    def test_nothing_to_mend(self):
        mends = Mends(example_plan(), RoomWish((3, 1), 12), MARKS)
        self.assertIs(bool(mends), True)
        self.assertEqual((mends.lot, mends.price, mends.barred, len(mends)), ((), 0, (), 0))

    def test_none_mends(self):
        plan = ring_plan()
        marks = (("drop", 0, 2), ("text", 0, "x", 1), ("bar", "a", "c", 0))
        mends = Mends(plan, RoomWish((0, 1), 0), marks)
        self.assertIs(bool(mends), False)
        self.assertEqual((mends.lot, mends.price), (None, None))
        self.assertEqual([lot for lot, _ in mends], list(lots(plan, marks)))
        # Without the first cue nothing is missed in a.
        self.assertEqual(mends[()], ("a",))
        self.assertEqual(mends[(0,)], ("a",))

    def test_the_answers(self):
        plan = example_plan()
        wish = RulesWish(Book(0, 0), Rules(short=3))
        # In c the text of cue 2 is on the screen for two ticks.
        self.assertEqual(wish(plan), ("a", "c", "a", "b"))
        marks = (("drop", 1, 1), ("drop", 0, 1), ("drop", 2, 2))
        mends = Mends(plan, wish, marks)
        self.assertEqual([lot for lot, _ in mends], [(), (0,), (1,)])
        self.assertEqual((mends.lot, mends.price), ((2,), 2))
        for lot, answer in mends:
            self.assertEqual(answer, wish(plan_under(plan, marks, lot)))

    def test_lots_behind_are_not_asked(self):
        plan = example_plan()
        marks = (("drop", 0, 1), ("drop", 1, 2), ("drop", 2, 4))
        wish = Picky({3: ("a",), 2: None, 1: "error", 0: "error"})
        mends = Mends(plan, wish, marks)
        self.assertEqual((mends.lot, mends.price, mends.barred, wish.asked), ((0,), 1, (((), ("a",)),), [3, 2]))
        wish = Picky({3: ("a",), 2: ("b",), 1: "error", 0: None})
        # The lots (), (0,) and (1,) go ahead of (0, 1).
        self.fails(TooMany, "standing", Mends, plan, wish, marks)
        self.assertEqual(wish.asked, [3, 2, 2, 1])
        wish = Picky({3: "error", 2: None, 1: None, 0: None})
        self.fails(TooMany, "standing", Mends, plan, wish, marks)
        self.assertEqual(wish.asked, [3])

    def test_errors_of_real_wishes(self):
        plan = example_plan()
        self.fails(TooMany, "point", Mends, plan, RoomWish((1, 6), 2000), MARKS)
        both = RoomWish((3, 1), 11) + RoomWish((1, 6), 2000)
        # The first wish bars the first lots; the first one that fulfils it meets the error of the second wish.
        self.fails(TooMany, "point", Mends, plan, both, MARKS)
        mends = Mends(plan, both, MARKS[1:2])
        self.assertEqual((mends.lot, len(mends)), (None, 2))

    def test_bad_marks_go_ahead(self):
        wish = Picky({})
        for marks in ((), None, (None,) * 7):
            self.fails(BadMark, -1, Mends, example_plan(), wish, marks)
        self.fails(BadMark, 1, Mends, example_plan(), RoomWish((1, 6), 2000), (MARKS[0], ("drop", 3, 1)))
        self.assertEqual(wish.asked, [])

    def test_in_and_items(self):
        plan = example_plan()
        mends = Mends(plan, RoomWish((3, 1), 10), MARKS)
        for lot in ((), (1,), (3,), (1, 3), [1, 3], []):
            self.assertIs(lot in mends, True)
            self.assertEqual(mends[lot], ("a",))
        others = (
            (0,), (2,), (0, 1), (3, 1), (1, 1), (4,), None, 5, "", "1", (True,), (False,), (True, 3), (1.0,), ((1,),), {}, 1,
        )
        for lot in others:
            self.assertIs(lot in mends, False)
            self.fails(BadLot, (lot,), lambda at: mends[at], lot)
        self.fails(BadLot, ([0],), lambda at: mends[at], [0])

    def test_against_going_through_all_lots(self):
        dice = random.Random(321)
        seen = set()
        for plan in marked_plans(321, 130):
            marks = random_marks(dice, plan)
            wish = random_wish(dice)
            mends = Mends(plan, wish, [list(mark) for mark in marks])
            barred = []
            found = None
            for lot in lots(plan, marks):
                answer = wish(plan_under(plan, marks, lot))
                if answer is None:
                    found = lot
                    break
                barred.append((lot, answer))
            self.assertEqual((mends.lot, mends.barred), (found, tuple(barred)))
            self.assertEqual(mends.price, None if found is None else price_of(plan, marks, found))
            self.assertIs(bool(mends), found is not None)
            for lot in lots(plan, marks):
                self.assertIs(lot in mends, lot in dict(barred))
            seen.add(None if found is None else min(1, len(found)))
        self.assertEqual(seen, {None, 0, 1})
