"""[5], [6]: rows, ways and versions."""

import itertools
import random

from seamfast.errors import BadNumber, BadRow
from seamfast.plans import Plan
from seamfast.ways import is_version, is_way, row_length, row_sends, versions, ways
from tests.samples import Case, example_plan, example_reel, full_plan, picture, random_plans, random_row, seen_sends


def tried_rows(plan, most):
    """All rows of at most so many pieces, in the order of ways."""
    for size in range(1, most + 1):
        yield from itertools.product(sorted(plan.names), repeat=size)


def goes_on(plan, row):
    """Whether a row is a way, as [5] tells."""
    return row[0] in plan.starts and all(pair in plan.arrows for pair in zip(row, row[1:]))


class RowsTest(Case):
    def test_ways_and_versions(self):
        plan = example_plan()
        for row in (("a",), ("a", "c"), ("a", "b"), ("a", "c", "a", "b")):
            self.assertIs(is_way(plan, row), True)
            self.assertIs(is_version(plan, row), row[-1] == "b")
        for row in (("b",), ("c", "a", "b"), ("a", "a"), ("a", "b", "a"), ("a", "c", "b")):
            self.assertIs(is_way(plan, row), False)
            self.assertIs(is_version(plan, row), False)

    def test_lengths_and_sends(self):
        plan = example_plan()
        self.assertEqual(row_length(plan, ("a", "b")), 30)
        self.assertEqual(row_sends(plan, ("a", "b")), ((0, 0), (1, 12), (2, 24)))
        self.assertEqual(row_sends(plan, ["c", "c"]), ((1, 8), (1, 24)))
        self.assertEqual(row_length(plan, ("c",) * 400), 6400)

    def test_lengths_and_sends_against_the_picture(self):
        dice = random.Random(20)
        for plan in random_plans(2, 100):
            for row in [random_row(dice, plan) for _ in range(5)]:
                self.assertEqual(row_length(plan, row), len(picture(plan, row)))
                self.assertEqual(row_sends(plan, row), seen_sends(plan, row))

    def test_bad_rows(self):
        plan = example_plan()
        for ask in (is_way, is_version, row_length, row_sends):
            for row in ((), [], None, "a", "abc", 4, True, {}, {"a": 1}, ("a",) * 401, (None,) * 401):
                self.fails(BadRow, -1, ask, plan, row)
            for thing in ("d", "", "ab", None, True, 0, ("a",), ["a"], {}):
                self.fails(BadRow, 2, ask, plan, ("b", "b", thing, "a", thing))
                self.fails(BadRow, 0, ask, plan, [thing])
            self.fails(BadRow, 399, ask, plan, ("c",) * 399 + ("d",))
            ask(plan, ["a"] * 400)

    def test_against_the_words(self):
        for plan in random_plans(3, 60, 3):
            for row in tried_rows(plan, 4):
                self.assertEqual(is_way(plan, row), goes_on(plan, row))
                self.assertEqual(is_version(plan, row), goes_on(plan, row) and row[-1] in plan.ends)

    def test_lists_stay_as_they_are(self):
        row = ["a", "c"]
        is_way(example_plan(), row)
        row_sends(example_plan(), row)
        self.assertEqual(row, ["a", "c"])


class WaysTest(Case):
    def test_example(self):
        plan = example_plan()
        self.assertEqual(list(ways(plan, 3)), [("a",), ("a", "b"), ("a", "c"), ("a", "c", "a")])
        self.assertEqual(list(versions(plan, 5)), [("a", "b"), ("a", "c", "a", "b")])

    def test_against_trying_all_rows(self):
        for plan in random_plans(4, 60, 3):
            found = [row for row in tried_rows(plan, 5) if goes_on(plan, row)]
            self.assertEqual(list(ways(plan, 5)), found)
            self.assertEqual(list(versions(plan, 5)), [row for row in found if row[-1] in plan.ends])

    def test_too_many_to_be_counted(self):
        plan = full_plan()
        for told in (ways(plan, 20), versions(plan, 20)):
            first = [next(told) for _ in range(12 + 144 + 3)]
            self.assertEqual(first[:12], [(name,) for name in "abcdefghijkl"])
            self.assertEqual(first[12 + 144:], [("a", "a", "a"), ("a", "a", "b"), ("a", "a", "c")])

    def test_versions_that_come_late(self):
        # All ways but those to the only end go on for ever in a thicket, and versions have an even number of pieces.
        names = "abcdefghijk"
        pieces = [(name, 0, 1, 1, 1, "on") for name in names + "z"]
        arrows = [(left, right) for left in names[:5] for right in names[5:]]
        arrows += [(right, left) for left in names[:5] for right in names[5:]] + [("k", "z")]
        plan = Plan(example_reel(), pieces, arrows, ("a",), ("z",))
        told = versions(plan, 20)
        self.assertEqual([len(next(told)) for _ in range(1 + 30 + 1)], [3] + [5] * 30 + [7])
        ahead = Plan(example_reel(), pieces[:2], (("a", "b"),), ("a",), ("b",))
        self.assertEqual(list(versions(ahead, 20)), [("a", "b")])
        self.assertEqual(list(ways(ahead, 20)), [("a",), ("a", "b")])

    def test_two_in_turn(self):
        plan = example_plan()
        one, other, third = ways(plan, 6), ways(plan, 6), versions(plan, 6)
        told = [(next(one), next(other)) for _ in range(5)]
        self.assertEqual([row for row, _ in told], [row for _, row in told])
        self.assertEqual(next(third), ("a", "b"))
        self.assertEqual(next(one), next(other))
        self.assertEqual(next(third), ("a", "c", "a", "b"))

    def test_most(self):
        plan = example_plan()
        self.assertEqual(list(ways(plan, 0)), [])
        self.assertEqual(list(versions(plan, 0)), [])
        self.assertEqual(list(ways(plan, 1)), [("a",)])
        self.assertEqual(list(versions(plan, 1)), [])
        self.assertEqual(max(len(row) for row in ways(plan, 20)), 20)
        for tell in (ways, versions):
            for most in (-1, 21, True, None, "3", 2.0, (3,)):
                told = tell(plan, most)
                self.fails(BadNumber, "most", next, told)
            self.assertIsNotNone(tell(None, "whatever"))
