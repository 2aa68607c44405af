"""[9]: texts of rolls."""

import random

from seamfast.errors import BadText, TooMany
from seamfast.plans import Plan
from seamfast.rolls import Roll
from seamfast.rolltext import read_roll, write_roll
from tests.samples import Case, example_plan, example_reel, random_plans, random_roll


def long_names():
    """A plan some of whose names begin with others."""
    pieces = (("a", 0, 1, 1, 1, "on"), ("ab", 0, 1, 1, 1, "on"), ("abcdefgh", 0, 1, 1, 1, "on"))
    names = ("a", "ab", "abcdefgh")
    return Plan(example_reel(), pieces, (), names, names)


class RollTextTest(Case):
    def test_written(self):
        self.assertEqual(write_roll(("a", (3, ("b", (2, ("c", "a")))), "b")), "a 3(b 2(c a)) b")
        self.assertEqual(write_roll(["a", [10 ** 39, ["b"]]]), f"a {10 ** 39}(b)")
        self.assertEqual(write_roll(("other",)), "other")

    def test_read(self):
        plan = example_plan()
        roll = read_roll(plan, "a 3(b 2(c a)) b")
        self.assertEqual(roll, Roll(plan, ("a", (3, ("b", (2, ("c", "a")))), "b")))
        self.assertIs(roll.plan, plan)
        self.assertEqual(read_roll(plan, "2(a)").written, ((2, ("a",)),))
        self.assertEqual(read_roll(plan, "a").written, ("a",))
        self.assertEqual(read_roll(plan, "10(a) 2(b) c").written, ((10, ("a",)), (2, ("b",)), "c"))
        self.assertEqual(read_roll(long_names(), "ab a 2(abcdefgh)").written, ("ab", "a", (2, ("abcdefgh",))))

    def test_written_and_read_again(self):
        dice = random.Random(6)
        for plan in random_plans(6, 100):
            written = random_roll(dice, plan)
            self.assertEqual(read_roll(plan, write_roll(written)).written, written)

    def test_bad_texts(self):
        plan = example_plan()
        bad = (
            ("", 0), (" ", 0), (" a", 0), ("a ", 2), ("a  b", 2), ("a b ", 4), ("d", 0), ("ab", 0), ("a ab c", 2),
            ("A", 0), ("a,b", 1), ("a\tb", 1), ("a-", 1), ("%", 0), ("(", 0), ("(a)", 0), (")", 0), ("a)", 1),
            ("a(b)", 1), ("a3(b)", 1), ("3", 1), ("3a", 1), ("3 (a)", 1), ("3(", 2), ("3()", 2), ("3( a)", 2),
            ("3(a", 3), ("3(a ", 4), ("3(a )", 4), ("3(a))", 4), ("3(a)b", 4), ("3(a)2(b)", 4), ("3(a", 3),
            ("3(d)", 2), ("3(a 2(b d))", 8), ("0(a)", 0), ("1(a)", 0), ("00", 0), ("02(a)", 0), ("0x", 0), ("1", 0),
            ("a 01(a)", 2), ("a 2(1(b))", 4), ("2(2(a)", 6), ("2((a))", 2), ("2(3)", 3), ("2(a]", 3), ("-2(a)", 0),
            ("+2(a)", 0), ("a\n", 1), ("2(a)\n", 4),
        )
        for text, at in bad:
            self.fails(BadText, at, read_roll, plan, text)

    def test_names_are_judged_as_a_whole(self):
        plan = long_names()
        for text, at in (("abc", 0), ("a abcdefghi", 2), ("aa", 0), ("ab abc ab", 3), ("2(abcdefg)", 2), ("abC", 2)):
            self.fails(BadText, at, read_roll, plan, text)

    def test_numbers(self):
        plan = example_plan()
        for times in (2, 10, 10 ** 39, 10 ** 40 - 1):
            self.assertEqual(read_roll(plan, f"a {times}(b)").written, ("a", (times, ("b",))))
        for digits in (str(10 ** 40), "1" * 41, "9" * 1990, "0" * 41):
            self.fails(BadText, 2, read_roll, plan, f"a {digits}(b)")
        self.fails(BadText, 0, read_roll, plan, "\u0663(a)")

    def test_open_brackets(self):
        plan = example_plan()
        self.assertEqual(read_roll(plan, "2(" * 5 + "a" + ")" * 5).size, 32)
        self.fails(BadText, 11, read_roll, plan, "2(" * 6 + "a" + ")" * 6)
        self.fails(BadText, 11, read_roll, plan, "2(" * 6)
        self.fails(BadText, 10, read_roll, plan, "2(" * 5 + "1(a)" + ")" * 5)
        self.fails(BadText, 11, read_roll, plan, "2(" * 5 + "2")
        self.assertEqual(read_roll(plan, "2(" * 5 + "a" + ")" * 5 + " 3(b)").size, 35)

    def test_no_strings(self):
        for thing in (None, 5, True, ("a",), ["a"], b"a", {}):
            self.fails(BadText, -1, read_roll, example_plan(), thing)

    def test_many_items(self):
        plan = example_plan()
        self.assertEqual(read_roll(plan, " ".join("a" * 60)).size, 60)
        self.fails(TooMany, "item", read_roll, plan, " ".join("a" * 61))
        self.fails(TooMany, "item", read_roll, plan, f"2({' '.join('a' * 60)})")
        self.fails(BadText, 122, read_roll, plan, " ".join("a" * 61) + " ")
        self.fails(BadText, 122, read_roll, plan, " ".join("a" * 61) + " d")
        self.fails(BadText, 1999, read_roll, plan, "a " * 999 + "a/")
