"""[14]: choices among carried captions, and bounds."""

import itertools
import random

from seamfast.books import Book, carried
from seamfast.errors import BadPrices, BadRow
from seamfast.plans import Plan
from seamfast.reels import Reel
from seamfast.rules import Rules, breaches
from seamfast.thinned import Thinned, judge_bounds
from tests.samples import Case, example_plan, random_plans, random_row
from tests.test_rules import random_rules

ROW = ("a", "c", "a", "b")


def fine_ones(plan, book, rules, row):
    """For each carried showing, whether it is fine."""
    broken = {number for number, word in breaches(plan, book, rules, row) if word in ("long", "pace", "short")}
    return [number not in broken for number in range(len(carried(plan, book, row)))]


def tried_choices(plan, book, rules, row):
    """All choices."""
    shown = carried(plan, book, row)
    fine = fine_ones(plan, book, rules, row)
    for many in range(len(shown) + 1):
        for choice in itertools.combinations([k for k in range(len(shown)) if fine[k]], many):
            pauses = [shown[right][1] - shown[left][2] for left, right in zip(choice, choice[1:])]
            if all(pause == 0 or pause >= rules.gap * plan.grain for pause in pauses):
                yield choice


def price_of(choice, prices, many=None):
    """The sum of the prices of those, of the first so many, that are not kept."""
    return sum(price for number, price in enumerate(prices[:many]) if number not in choice)


def tried_bounds(choices, prices):
    """The bounds, told from all choices."""
    bounds = []
    for number in range(len(prices)):
        sums = [price_of(choice, prices, number) for choice in choices if number in choice]
        bounds.append(min(sums, default=None))
    return tuple(bounds) + (min(price_of(choice, prices) for choice in choices),)


def right_entry(shown, fine, gap, prices, table, number):
    """Whether an entry of bounds is right by itself, as [14] tells."""
    last = number == len(shown)
    entry = table[number]
    if not last and not fine[number]:
        return entry is None
    if not isinstance(entry, int) or isinstance(entry, bool) or entry > sum(prices[:number]):
        return False
    for other in range(number):
        pause = 0 if last else shown[number][1] - shown[other][2]
        if fine[other] and (last or pause == 0 or pause >= gap):
            if entry > table[other] + sum(prices[other + 1:number]):
                return False
    return True


def first_wrong(shown, fine, gap, prices, table):
    """The number of the first wrong entry, or None."""
    for number in range(len(table)):
        if not right_entry(shown, fine, gap, prices, table, number):
            return number
    return None


def some_cases(seed, many):
    """Plans with a book, rules, a row and prices."""
    dice = random.Random(seed)
    for plan in random_plans(seed, many):
        book = Book(dice.randint(0, 2), dice.randint(0, 3))
        row = random_row(dice, plan)
        if len(carried(plan, book, row)) > 11:
            row = row[:2]
        most = dice.choice((1, 2, 100))
        prices = tuple(dice.randint(0, most) for _ in carried(plan, book, row))
        yield plan, book, random_rules(dice), row, prices


class ThinnedTest(Case):
    def test_example(self):
        thinned = Thinned(example_plan(), Book(1, 2), Rules(gap=3), ROW, (1,) * 7)
        self.assertEqual((thinned.price, thinned.choice), (3, (0, 2, 4, 6)))
        self.assertEqual(thinned.bounds, (0, 1, 1, 2, 2, 3, 3, 3))
        self.assertEqual(len(thinned), 4)
        self.assertEqual(list(thinned), [0, 2, 4, 6])

    def test_against_trying_all_choices(self):
        for plan, book, rules, row, prices in some_cases(34, 300):
            thinned = Thinned(plan, book, rules, list(row), list(prices))
            choices = list(tried_choices(plan, book, rules, row))
            least = min(price_of(choice, prices) for choice in choices)
            self.assertEqual(thinned.price, least)
            self.assertEqual(thinned.choice, min(one for one in choices if price_of(one, prices) == least))
            self.assertEqual(thinned.bounds, tried_bounds(choices, prices))
            self.assertEqual((len(thinned), tuple(thinned)), (len(thinned.choice), thinned.choice))
            self.assertIsNone(judge_bounds(plan, book, rules, row, prices, thinned.bounds))

    def test_no_prices(self):
        thinned = Thinned(example_plan(), Book(1, 2), Rules.loosest(), ROW, (0,) * 7)
        self.assertEqual((thinned.price, thinned.choice, len(thinned)), (0, (), 0))
        thinned = Thinned(example_plan(), Book(1, 2), Rules.loosest(), ROW, (0, 0, 1, 0, 0, 1, 0))
        self.assertEqual(thinned.choice, (0, 1, 2, 3, 4, 5))

    def test_fit_by_touching_and_by_the_gap(self):
        plan = example_plan()
        # In the row a, c the showings of cues 1 and 2 touch; 4 grains lie ahead of 1 and behind 2.
        for gap, choice in ((2, (0, 1, 2, 3)), (3, (0, 3)), (10, (0, 3)), (11, (1, 2))):
            thinned = Thinned(plan, Book(0, 0), Rules(gap=gap), ("a", "c"), (5, 3, 3, 4))
            self.assertEqual(thinned.choice, choice)
            self.assertEqual(thinned.price, sum((5, 3, 3, 4)) - sum((5, 3, 3, 4)[k] for k in choice))

    def test_no_showings(self):
        plan = Plan(Reel(5), (("a", 0, 5, 1, 1, "on"),), (), ("a",), ("a",))
        thinned = Thinned(plan, Book(1, 2), Rules(), ("a",), ())
        self.assertEqual((thinned.price, thinned.choice, thinned.bounds, len(thinned)), (0, (), (0,), 0))
        self.assertIsNone(judge_bounds(plan, Book(1, 2), Rules(), ("a",), [], (0,)))
        self.assertIsNone(judge_bounds(plan, Book(1, 2), Rules(), ("a",), [], [-7]))
        self.assertEqual(judge_bounds(plan, Book(1, 2), Rules(), ("a",), (), (1,)), 0)

    def test_none_is_fine(self):
        thinned = Thinned(example_plan(), Book(1, 2), Rules(short=100), ROW, (3,) * 7)
        self.assertEqual((thinned.price, thinned.choice), (21, ()))
        self.assertEqual(thinned.bounds, (None,) * 7 + (21,))

    def test_very_many_showings(self):
        reel = Reel(100, [(k, k + 1, "a", "x") for k in range(0, 80, 2)])
        plan = Plan(reel, (("a", 0, 80, 1, 1, "on"),), (), ("a",), ("a",))
        thinned = Thinned(plan, Book(0, 0), Rules(gap=2), ("a",) * 400, (1,) * 16000)
        self.assertEqual((thinned.price, len(thinned)), (8000, 8000))
        self.assertEqual(thinned.choice[:4], (0, 2, 4, 6))
        self.assertIsNone(judge_bounds(plan, Book(0, 0), Rules(gap=2), ("a",) * 400, (1,) * 16000, thinned.bounds))

    def test_errors_in_order(self):
        plan = example_plan()
        for action in (Thinned, lambda *told: judge_bounds(*told, None)):
            self.fails(BadRow, -1, action, plan, Book(1, 2), Rules(), (), None)
            self.fails(BadRow, 1, action, plan, Book(1, 2), Rules(), ("a", "d"), None)
            for prices in (None, (), (1,) * 6, (1,) * 8, 7, "1111111", {}, (None,) * 8):
                self.fails(BadPrices, -1, action, plan, Book(1, 2), Rules(), ROW, prices)
            for price in (-1, 101, True, False, None, "1", (1,), 1.0):
                self.fails(BadPrices, 2, action, plan, Book(1, 2), Rules(), ROW, (0, 100, price, 1, price, 1, 1))

    def test_lists_stay_as_they_are(self):
        prices = [1] * 7
        thinned = Thinned(example_plan(), Book(1, 2), Rules(gap=3), list(ROW), prices)
        prices[0] = 50
        self.assertEqual(thinned.price, 3)
        self.assertEqual(prices, [50] + [1] * 6)


class JudgeTest(Case):
    def judged(self, table, prices=(1,) * 7, rules=Rules(gap=3)):
        return judge_bounds(example_plan(), Book(1, 2), rules, ROW, prices, table)

    def test_example(self):
        right = (0, 1, 1, 2, 2, 3, 3, 3)
        self.assertIsNone(self.judged(right))
        self.assertIsNone(self.judged(list(right)))
        for number in range(8):
            more = right[:number] + (right[number] + 1,) + right[number + 1:]
            self.assertEqual(self.judged(more), number)
            # A lesser entry is right by itself, but others can hang on it.
            less = right[:number] + (right[number] - 1,) + right[number + 1:]
            self.assertIn(self.judged(less), (None,) + tuple(range(number + 1, 8)))
        self.assertIsNone(self.judged((0, 0, 0, 0, 0, 0, 0, 0)))
        self.assertIsNone(self.judged((-5, -5, -5, -5, -5, -5, -5, -5)))
        self.assertEqual(self.judged((-5, 1, 1, 2, 2, 3, 3, 3)), 2)

    def test_wrong_forms(self):
        right = (0, 1, 1, 2, 2, 3, 3, 3)
        for table in (None, 5, "00000000", right[:7], right + (3,), (), {}, True):
            self.assertEqual(self.judged(table), -1)
        for number in range(8):
            for entry in (None, True, False, "0", 0.0, (0,), [0]):
                self.assertEqual(self.judged(right[:number] + (entry,) + right[number + 1:]), number)
        self.assertEqual(self.judged((0, None, 1, None, 2, 3, 3, None)), 1)

    def test_none_just_for_what_is_not_fine(self):
        rules = Rules(gap=3, short=3)
        right = Thinned(example_plan(), Book(1, 2), rules, ROW, (1,) * 7).bounds
        self.assertEqual(right, (0, 1, None, 2, 2, 3, 3, 3))
        self.assertIsNone(self.judged(right, rules=rules))
        self.assertEqual(self.judged((0, 1, 1, 2, 2, 3, 3, 3), rules=rules), 2)
        self.assertEqual(self.judged((0, 1, None, None, 2, 3, 3, 3), rules=rules), 3)

    def test_against_the_words(self):
        dice = random.Random(35)
        for plan, book, rules, row, prices in some_cases(35, 300):
            bounds = list(Thinned(plan, book, rules, row, prices).bounds)
            shown = carried(plan, book, row)
            fine = fine_ones(plan, book, rules, row)
            for _ in range(4):
                table = list(bounds)
                for _ in range(dice.randint(1, 3)):
                    number = dice.randrange(len(table))
                    moved = bounds[number] or 0
                    table[number] = dice.choice((None, True, moved - 1, moved + 1, moved - 3, moved, "0"))
                wrong = first_wrong(shown, fine, rules.gap * plan.grain, prices, table)
                self.assertEqual(judge_bounds(plan, book, rules, row, prices, table), wrong)
