"""[12]: books and carried captions."""

import random

from seamfast.books import Book, carried
from seamfast.errors import BadNumber, BadRow
from seamfast.plans import Plan
from seamfast.reels import Reel
from tests.samples import Case, example_plan, random_plans, random_row, seen_showings

ROW = ("a", "c", "a", "b")


def seen_carried(plan, book, row):
    """The captions carried for a row, in two steps, one neighbour after the other."""
    kept = [list(shown) for shown in seen_showings(plan, row) if shown[2] - shown[1] >= book.least * plan.grain]
    pauses = [right[1] - left[2] for left, right in zip(kept, kept[1:])]
    told = []
    for number, shown in enumerate(kept):
        near = number > 0 and pauses[number - 1] < book.close * plan.grain
        if near and told[-1][0] == shown[0]:
            told[-1][2] = shown[2]
            continue
        if near:
            told[-1][2] = shown[1]
        told.append(list(shown))
    return tuple(tuple(shown) for shown in told)


def one_reel_plan(*cues):
    """A plan of one piece that shows a whole reel with cues at these times, by cue a speaker's letter."""
    reel = Reel(100, [(start, end, "a", "x") for start, end in cues])
    return Plan(reel, (("a", 0, 100, 1, 1, "on"),), (("a", "a"),), ("a",), ("a",))


class BookTest(Case):
    def test_bounds(self):
        for number in (0, 100):
            self.assertEqual((Book(number, 5).least, Book(5, number).close), (number, number))
        for number in (-1, 101, True, False, None, "1", 1.0, (1,), 10 ** 40):
            self.fails(BadNumber, "least", Book, number, None)
            self.fails(BadNumber, "close", Book, 0, number)

    def test_equal(self):
        self.assertIs(Book(1, 2) == Book(1, 2), True)
        self.assertIs(Book(1, 2) == Book(1, 3), False)
        self.assertIs(Book(1, 2) == Book(2, 2), False)
        for other in (None, (1, 2), 1):
            self.assertIs(Book(1, 2) == other, False)


class CarriedTest(Case):
    def test_example(self):
        plan = example_plan()
        self.assertEqual(carried(plan, Book(1, 2), ROW), (
            (0, 0, 8), (1, 12, 20), (2, 20, 24), (1, 28, 36), (0, 36, 44), (1, 48, 60), (2, 60, 66),
        ))
        self.assertEqual(carried(plan, Book(3, 2), ROW), (
            (0, 0, 8), (1, 12, 20), (1, 28, 36), (0, 36, 44), (1, 48, 60), (2, 60, 66),
        ))
        self.assertEqual(carried(plan, Book(0, 0), list(ROW)), seen_showings(plan, ROW))

    def test_two_of_one_cue_become_one(self):
        # With least 3 the short showing of cue 2 between two of cue 1 is left out.
        plan = example_plan()
        self.assertEqual(carried(plan, Book(3, 5), ROW), (
            (0, 0, 12), (1, 12, 36), (0, 36, 48), (1, 48, 60), (2, 60, 66),
        ))
        self.assertEqual(carried(plan, Book(3, 4), ROW)[1:3], ((1, 12, 20), (1, 28, 36)))

    def test_several_in_turn(self):
        plan = one_reel_plan((10, 20))
        self.assertEqual(carried(plan, Book(0, 91), ("a",) * 4), ((0, 10, 320),))
        self.assertEqual(len(carried(plan, Book(0, 90), ("a",) * 4)), 4)

    def test_bounds_met_or_missed_by_one_grain(self):
        reel = Reel(20, ((2, 4, "a", "x"), (9, 11, "b", "y")))
        plan = Plan(reel, (("a", 0, 12, 5, 2, "on"), ("b", 0, 1, 1, 1, "on")), (), ("a", "b"), ("a", "b"))
        self.assertEqual(carried(plan, Book(5, 12), ("a",)), ((0, 10, 20), (1, 45, 55)))
        self.assertEqual(carried(plan, Book(5, 13), ("a",)), ((0, 10, 45), (1, 45, 55)))
        self.assertEqual(carried(plan, Book(6, 13), ("a",)), ())
        even = one_reel_plan((2, 4), (9, 12))
        self.assertEqual(carried(even, Book(2, 5), ("a",)), ((0, 2, 4), (1, 9, 12)))
        self.assertEqual(carried(even, Book(2, 6), ("a",)), ((0, 2, 9), (1, 9, 12)))
        self.assertEqual(carried(even, Book(3, 6), ("a",)), ((1, 9, 12),))
        self.assertEqual(carried(even, Book(4, 6), ("a",)), ())

    def test_a_held_one_is_not_held_by_what_is_left_out(self):
        plan = one_reel_plan((0, 5), (6, 7), (8, 13))
        self.assertEqual(carried(plan, Book(2, 3), ("a",)), ((0, 0, 5), (2, 8, 13)))
        self.assertEqual(carried(plan, Book(2, 4), ("a",)), ((0, 0, 8), (2, 8, 13)))
        self.assertEqual(carried(plan, Book(1, 2), ("a",)), ((0, 0, 6), (1, 6, 8), (2, 8, 13)))

    def test_the_end_of_the_row(self):
        plan = one_reel_plan((90, 100))
        self.assertEqual(carried(plan, Book(10, 0), ("a",)), ((0, 90, 100),))
        self.assertEqual(carried(plan, Book(11, 0), ("a",)), ())

    def test_against_the_picture(self):
        dice = random.Random(32)
        for plan in random_plans(32, 300):
            row = random_row(dice, plan)
            book = Book(dice.randint(0, 4), dice.randint(0, 5))
            self.assertEqual(carried(plan, book, row), seen_carried(plan, book, row))

    def test_bad_rows(self):
        plan = example_plan()
        for row in ((), None, "a", ("a",) * 401):
            self.fails(BadRow, -1, carried, plan, Book(1, 2), row)
        self.fails(BadRow, 1, carried, plan, Book(1, 2), ("a", "d", None))
