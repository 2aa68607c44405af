"""[25]: windows."""

import random

from seamfast.errors import BadForesight, BadRow, BadWay, TooMany
from seamfast.plans import Plan
from seamfast.reels import Reel
from seamfast.ways import versions
from seamfast.windows import first_windows, windows, windows_behind, windows_of
from tests.samples import Case, example_plan, full_plan, random_plans, rich_plans

BAD_FORESIGHTS = (-1, 5, True, False, None, "1", 1.0, (1,), 10 ** 39)


def silent_plan(many, arrows, starts, ends):
    """A plan of so many pieces without cues."""
    pieces = [(name, 0, 1, 1, 1, "on") for name in "abcdefghijkl"[:many]]
    return Plan(Reel(5), pieces, arrows, starts, ends)


def cut_windows(version, many):
    """What is known at each piece of a version."""
    return [version[number:number + many + 1] for number in range(len(version))]


class ExampleTest(Case):
    def test_example(self):
        plan = example_plan()
        self.assertEqual(windows(plan, 0), (("a",), ("b",), ("c",)))
        self.assertEqual(windows(plan, 1), (("a", "b"), ("a", "c"), ("b",), ("c", "a")))
        self.assertEqual(windows(plan, 2), (
            ("a", "b"), ("a", "c", "a"), ("b",), ("c", "a", "b"), ("c", "a", "c"),
        ))
        self.assertEqual(first_windows(plan, 2), (("a", "b"), ("a", "c", "a")))
        self.assertEqual(first_windows(plan, 0), (("a",),))

    def test_behind(self):
        plan = example_plan()
        self.assertEqual(windows_behind(plan, 0, ("a",)), (("b",), ("c",)))
        self.assertEqual(windows_behind(plan, 0, ("b",)), ())
        self.assertEqual(windows_behind(plan, 1, ("a", "b")), (("b",),))
        self.assertEqual(windows_behind(plan, 1, ["a", "c"]), (("c", "a"),))
        self.assertEqual(windows_behind(plan, 1, ("b",)), ())
        self.assertEqual(windows_behind(plan, 2, ("a", "b")), (("b",),))
        self.assertEqual(windows_behind(plan, 2, ("a", "c", "a")), (("c", "a", "b"), ("c", "a", "c")))
        self.assertEqual(windows_behind(plan, 2, ("c", "a", "b")), (("a", "b"),))

    def test_where_a_version_can_end_and_go_on(self):
        plan = silent_plan(2, (("a", "a"), ("a", "b"), ("b", "a")), ("a",), ("a",))
        self.assertEqual(windows(plan, 0), (("a",), ("b",)))
        self.assertEqual(windows(plan, 1), (("a",), ("a", "a"), ("a", "b"), ("b", "a")))
        self.assertEqual(windows_behind(plan, 1, ("a", "a")), (("a",), ("a", "a"), ("a", "b")))
        self.assertEqual(windows_behind(plan, 1, ("a", "b")), (("b", "a"),))
        self.assertEqual(windows_behind(plan, 1, ("b", "a")), (("a",), ("a", "a"), ("a", "b")))
        self.assertEqual(windows_behind(plan, 1, ("a",)), ())
        self.assertEqual(windows_behind(plan, 0, ("a",)), (("a",), ("b",)))
        self.assertEqual(windows(plan, 2), (
            ("a",), ("a", "a"), ("a", "a", "a"), ("a", "a", "b"), ("a", "b", "a"), ("b", "a"), ("b", "a", "a"), ("b", "a", "b"),
        ))
        self.assertEqual(windows_behind(plan, 2, ("a", "a", "a")), (("a", "a"), ("a", "a", "a"), ("a", "a", "b")))
        self.assertEqual(windows_behind(plan, 2, ("b", "a")), (("a",),))

    def test_of_a_version(self):
        plan = example_plan()
        version = ("a", "c", "a", "b")
        self.assertEqual(windows_of(plan, 0, version), (("a",), ("c",), ("a",), ("b",)))
        self.assertEqual(windows_of(plan, 2, list(version)), (("a", "c", "a"), ("c", "a", "b"), ("a", "b"), ("b",)))
        self.assertEqual(windows_of(plan, 4, ("a", "b")), (("a", "b"), ("b",)))
        long = ("a", "c") * 199 + ("a", "b")
        self.assertEqual(windows_of(plan, 3, long), tuple(cut_windows(long, 3)))


class AgainstVersionsTest(Case):
    def test_all_windows(self):
        for plan in random_plans(121, 60, 3) + rich_plans(122, 60, 3):
            for many in range(5):
                # Each piece stands in a version, and each window can be gone on with and come to.
                most = many + 2 * len(plan) + 1
                if len(plan) > 2 and many > 2:
                    continue
                rows = list(versions(plan, min(most, 9)))
                seen = sorted({window for row in rows for window in cut_windows(row, many)})
                self.assertEqual(windows(plan, many), tuple(seen))
                firsts = sorted({row[:many + 1] for row in rows})
                self.assertEqual(first_windows(plan, many), tuple(firsts))
                behind = {window: set() for window in seen}
                for row in rows:
                    told = windows_of(plan, many, row)
                    self.assertEqual(told, tuple(cut_windows(row, many)))
                    for left, right in zip(told, told[1:]):
                        behind[left].add(right)
                for window in seen:
                    self.assertEqual(windows_behind(plan, many, window), tuple(sorted(behind[window])))


class BoundTest(Case):
    def test_as_many_windows_as_are_let(self):
        # With all arrows among 7 pieces there are 343 windows of 3 names, and 7 and 49 shorter ones if all are ends.
        names = "abcdefg"
        arrows = [(left, right) for left in names for right in names]
        plan = silent_plan(7, arrows, ("a",), ("a",))
        self.assertEqual(len(windows(plan, 2)), 343 + 49 // 7 + 1)
        seven = silent_plan(7, arrows, ("a",), tuple(names))
        self.assertEqual(len(windows(seven, 2)), 399)
        self.assertEqual(len(first_windows(seven, 2)), 57)
        # One more piece that ends each version: ("h",) alone is one more.
        eight = silent_plan(8, arrows, ("a", "h"), tuple(names + "h"))
        self.assertEqual(len(windows(eight, 2)), 400)
        nine = silent_plan(9, arrows, ("a", "h", "i"), tuple(names + "hi"))
        self.fails(TooMany, "window", windows, nine, 2)
        self.fails(TooMany, "window", first_windows, nine, 2)
        self.fails(TooMany, "window", first_windows, seven, 3)
        self.fails(TooMany, "window", windows, full_plan(), 4)
        self.assertEqual(len(windows(full_plan(), 1)), 156)
        self.assertEqual(windows_behind(nine, 2, ("h",)), ())
        self.assertEqual(len(windows_behind(full_plan(), 4, tuple("abcde"))), 13)

    def test_errors(self):
        plan = example_plan()
        for foresight in BAD_FORESIGHTS:
            self.fails(BadForesight, (foresight,), windows, plan, foresight)
            self.fails(BadForesight, (foresight,), first_windows, full_plan(), foresight)
            self.fails(BadForesight, (foresight,), windows_behind, plan, foresight, ("a",))
            self.fails(BadForesight, (foresight,), windows_of, plan, foresight, None)
        for row in ((), None, "ab", ("a",) * 401):
            self.fails(BadRow, -1, windows_of, plan, 1, row)
        self.fails(BadRow, 2, windows_of, plan, 1, ("b", "b", "d"))
        self.fails(BadWay, 0, windows_of, plan, 1, ("b",))
        self.fails(BadWay, 1, windows_of, plan, 1, ("a", "a"))
        self.fails(BadWay, 3, windows_of, plan, 1, ("a", "c", "a"))
        self.fails(BadWay, 1, windows_of, plan, 1, ["a"])
