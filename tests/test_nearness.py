"""[31]: speakers who are near."""

import random

from seamfast.errors import Apart, BadNumber, Unknown
from seamfast.nearness import Nearness
from seamfast.plans import Plan
from seamfast.reels import Reel
from seamfast.ways import row_sends, ways
from tests.samples import Case, example_plan, random_plans, rich_plans
from tests.test_known import line_plan
from tests.test_windows import silent_plan

BAD_WITHINS = (0, 11, -1, True, False, None, "1", 1.0, (1,), 10 ** 39)


def near_on(plan, within, way):
    """The pairs of speakers who are near on a way."""
    texts = [plan.reel[cue][2] for cue, _ in row_sends(plan, way)]
    pairs = set()
    for number, speaker in enumerate(texts):
        for other in texts[number + 1:number + 1 + within]:
            if other != speaker:
                pairs.add((min(speaker, other), max(speaker, other)))
    return pairs


class ExampleTest(Case):
    def test_example(self):
        nearness = Nearness(example_plan(), 1)
        self.assertEqual((tuple(nearness), len(nearness)), ((("ann", "bob"),), 1))
        self.assertEqual((nearness.plan, nearness.within), (example_plan(), 1))
        self.assertEqual((nearness["ann", "bob"], nearness["bob", "ann"]), (("a",), ("a",)))
        self.assertEqual((nearness[["bob", "ann"]],), (("a",),))

    def test_in(self):
        nearness = Nearness(line_plan("rst"), 1)
        self.assertEqual(tuple(nearness), (("r", "s"), ("s", "t")))
        for pair in (("r", "s"), ("s", "r"), ["t", "s"]):
            self.assertIs(pair in nearness, True)
        for thing in (
            ("r", "t"), ("t", "r"), ("r", "r"), ("r", "x"), ("r",), (), ("r", "s", "t"), "rs", None, 5, True, {}, ("r", None),
            (["r"], "s"), ("r", 1), {"r": 1, "s": 2},
        ):
            self.assertIs(thing in nearness, False)

    def test_who_is_not_near(self):
        nearness = Nearness(line_plan("rst"), 1)
        self.fails(Apart, ("r", "t"), lambda: nearness["r", "t"])
        self.fails(Apart, ("t", "r"), lambda: nearness["t", "r"])
        self.fails(Apart, ("s", "s"), lambda: nearness["s", "s"])
        for name in ("x", "", None, True, 5, ("s",), ["s"], {}):
            self.fails(Unknown, (name,), lambda: nearness["s", name])
            self.fails(Unknown, (name,), lambda: nearness[name, "s"])
            self.fails(Unknown, (name,), lambda: nearness[name, "y"])
        self.fails(Unknown, "y", lambda: nearness["y", "x"])

    def test_within(self):
        plan = line_plan("rssssssssst")
        self.assertEqual(tuple(Nearness(plan, 9)), (("r", "s"), ("s", "t")))
        self.assertEqual(tuple(Nearness(plan, 10)), (("r", "s"), ("r", "t"), ("s", "t")))
        self.assertEqual(Nearness(plan, 10)["t", "r"], plan.names)
        self.assertEqual(tuple(Nearness(line_plan("rssssssssst-"), 10))[1], ("r", "t"))
        self.assertEqual(tuple(Nearness(line_plan("rsssssssssst"), 10)), (("r", "s"), ("s", "t")))
        plan = line_plan("rsst")
        self.assertEqual([("r", "t") in Nearness(plan, within) for within in (1, 2, 3)], [False, False, True])

    def test_pieces_without_texts_between(self):
        plan = line_plan("r--s--t")
        self.assertEqual(tuple(Nearness(plan, 1)), (("r", "s"), ("s", "t")))
        self.assertEqual(Nearness(plan, 1)["r", "s"], ("a", "b", "c", "d"))

    def test_over_a_ring(self):
        # From s back to r a ring leads, and then t follows where r was.
        plan = line_plan("rst", [("a", "b"), ("b", "a"), ("a", "c")])
        self.assertEqual(Nearness(plan, 1)["r", "t"], ("a", "c"))
        self.assertEqual(Nearness(plan, 2)["t", "s"], ("a", "b", "a", "c"))
        self.fails(Apart, ("t", "s"), lambda: Nearness(plan, 1)["t", "s"])

    def test_the_lesser_order(self):
        # s behind r on two pieces, r behind s on a lesser way of two.
        plan = line_plan("srs", [("a", "b"), ("b", "c")], starts="ab", ends="c")
        self.assertEqual(Nearness(plan, 1)["r", "s"], ("a", "b"))
        plan = line_plan("rsr", [("b", "c"), ("c", "b"), ("a", "c")], starts="ba", ends="c")
        self.assertEqual(Nearness(plan, 1)["r", "s"], ("b", "c"))

    def test_a_long_way(self):
        # Between r and t a ring of one piece without texts can be passed; the least way does not.
        plan = line_plan("r-t", [("a", "b"), ("b", "b"), ("b", "c")])
        self.assertEqual(Nearness(plan, 1)["r", "t"], ("a", "b", "c"))

    def test_speakers_never_sent(self):
        plan = Plan(Reel(9, ((0, 2, "ann", "x"), (3, 5, "bob", "y"), (6, 7, "cy", "z"))), (("a", 0, 5, 1, 1, "on"),), (), ("a",), ("a",))
        nearness = Nearness(plan, 10)
        self.assertEqual(tuple(nearness), (("ann", "bob"),))
        self.fails(Apart, ("ann", "cy"), lambda: nearness["ann", "cy"])
        self.assertEqual(tuple(Nearness(silent_plan(1, (), ("a",), ("a",)), 3)), ())

    def test_against_ways_one_by_one(self):
        dice = random.Random(181)
        seen = [0, 0]
        for plan in random_plans(181, 200, 3) + rich_plans(182, 300, 3):
            within = dice.choice((1, 1, 2, 3, 10))
            nearness = Nearness(plan, within)
            rows = list(ways(plan, 5))
            pairs = {way: near_on(plan, within, way) for way in rows}
            self.assertEqual(tuple(nearness), tuple(sorted(nearness)))
            for first, second in nearness:
                self.assertLess(first, second)
                way = nearness[second, first]
                if len(way) <= 5:
                    self.assertEqual(way, [row for row in rows if (first, second) in pairs[row]][0])
                    seen[0] += 1
                else:
                    self.assertIn((first, second), near_on(plan, within, way))
                    seen[1] += 1
            self.assertLessEqual(set().union(*pairs.values()), set(nearness))
        self.assertGreater(seen[0], 100)

    def test_bad_numbers(self):
        for within in BAD_WITHINS:
            self.fails(BadNumber, "within", Nearness, example_plan(), within)
