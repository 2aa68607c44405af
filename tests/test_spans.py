"""[17]: the spans of cues in all versions."""

import random

from seamfast.allversions import AllVersions
from seamfast.books import Book, carried
from seamfast.errors import BadCue, TooMany
from seamfast.plans import Plan
from seamfast.reels import Reel
from seamfast.rules import Rules
from seamfast.spans import Spans
from seamfast.ways import is_version, versions
from tests.samples import Case, example_plan, random_plans, rich_plans
from tests.test_allversions import quiet_plan


def lengths_in(plan, book, version, cue):
    """The lengths of the carried showings of a cue in a version."""
    return [over - begun for shown, begun, over in carried(plan, book, version) if shown == cue]


def ring_plan(*, starts=("a",), ends=("b",)):
    """A plan in whose piece a, over and over again, the cue 0 is on the screen throughout."""
    reel = Reel(20, ((0, 10, "ann", "good evening"), (12, 14, "bob", "late")))
    pieces = (("a", 2, 4, 1, 1, "on"), ("b", 10, 14, 1, 1, "on"))
    return Plan(reel, pieces, (("a", "a"), ("a", "b"), ("b", "a")), starts, ends)


class ExampleTest(Case):
    def test_example(self):
        spans = Spans(example_plan(), Book(1, 2))
        # In b cue 2 is shown 6 grains, in c 4 grains; cue 1 is cut by the end of a and held by that of b.
        self.assertEqual(tuple(spans), ((8, 8, True), (8, 12, True), (4, 6, True)))
        self.assertEqual([spans[cue] for cue in range(3)], list(spans))
        self.assertEqual(len(spans), 3)
        self.assertEqual([spans.lacking(cue) for cue in range(3)], [None, None, None])
        self.assertEqual(spans.shortest(0), ("a", "b"))
        self.assertEqual(spans.shortest(1), ("a", "c", "a", "b"))
        self.assertEqual(spans.shortest(2), ("a", "c", "a", "b"))

    def test_what_is_left_out(self):
        spans = Spans(example_plan(), Book(3, 2))
        self.assertEqual(spans[2], (6, 6, True))
        self.assertEqual(spans.shortest(2), ("a", "b"))
        spans = Spans(example_plan(), Book(4, 2))
        self.assertEqual(tuple(spans), ((8, 8, True), (8, 10, True), (None, None, False)))
        self.assertIsNone(spans.shortest(2))
        self.assertEqual(spans.lacking(2), ("a", "b"))
        spans = Spans(example_plan(), Book(100, 2))
        self.assertEqual(tuple(spans), ((None, None, False),) * 3)

    def test_a_cue_that_is_never_shown(self):
        reel = Reel(20, ((0, 4, "ann", "x"), (6, 8, "ann", "y")))
        spans = Spans(Plan(reel, (("a", 0, 6, 1, 1, "on"),), (), ("a",), ("a",)), Book(0, 0))
        self.assertEqual(tuple(spans), ((4, 4, True), (None, None, False)))
        self.assertEqual((spans.shortest(1), spans.lacking(1)), (None, ("a",)))
        bare = Spans(Plan(Reel(5), (("a", 0, 5, 1, 1, "on"),), (), ("a",), ("a",)), Book(0, 0))
        self.assertEqual((len(bare), tuple(bare)), (0, ()))
        self.fails(BadCue, 0, bare.shortest, 0)

    def test_no_numbers_of_cues(self):
        spans = Spans(example_plan(), Book(1, 2))
        for cue in (-1, 3, True, False, None, "0", (0,), [0], 10 ** 39):
            self.fails(BadCue, (cue,), lambda: spans[cue])
            self.fails(BadCue, (cue,), spans.shortest, cue)
            self.fails(BadCue, (cue,), spans.lacking, cue)

    def test_nothing_is_changed(self):
        plan = example_plan()
        book = Book(1, 2)
        Spans(plan, book).shortest(1)
        self.assertEqual(plan, example_plan())
        self.assertEqual(book, Book(1, 2))


class RingTest(Case):
    def test_a_cue_that_stays_on_over_a_ring(self):
        plan = ring_plan()
        spans = Spans(plan, Book(0, 0))
        self.assertEqual(tuple(spans), ((2, None, True), (2, 2, True)))
        self.assertEqual(spans.shortest(0), ("a", "b"))

    def test_left_out_unless_it_stays_on_long_enough(self):
        spans = Spans(ring_plan(), Book(5, 0))
        self.assertEqual(spans[0], (6, None, False))
        self.assertEqual(spans.shortest(0), ("a", "a", "a", "b"))
        self.assertEqual(spans.lacking(0), ("a", "b"))

    def test_over_several_rings(self):
        reel = Reel(20, ((0, 10, "ann", "good evening"), (12, 14, "bob", "late")))
        pieces = [(name, at, at + 1, 1, 1, "on") for at, name in enumerate("abcd")] + [("e", 11, 15, 1, 1, "on")]
        arrows = (("a", "b"), ("b", "a"), ("b", "c"), ("c", "d"), ("d", "c"), ("d", "e"), ("e", "e"))
        plan = Plan(reel, pieces, arrows, ("a",), ("e",))
        spans = Spans(plan, Book(0, 0))
        self.assertEqual(tuple(spans), ((4, None, True), (2, 2, True)))
        # Only the ring of a and b is left: then the cue is on in the pieces ahead of c as well.
        spans = Spans(Plan(reel, pieces, arrows[:4] + arrows[5:], ("a", "c"), ("e",)), Book(0, 0))
        self.assertEqual(spans[0], (2, None, True))
        spans = Spans(Plan(reel, pieces, arrows[:1] + arrows[2:4] + arrows[5:], ("a",), ("e",)), Book(0, 0))
        self.assertEqual(spans[0], (4, 4, True))

    def test_behind_a_ring_and_behind_a_long_piece(self):
        # From the long piece l the cue comes to e with far more than a few turns of the ring of r can bring.
        reel = Reel(2000, ((0, 1000, "ann", "good evening"), (1100, 1110, "bob", "late")))
        pieces = (
            ("l", 0, 900, 1, 1, "on"), ("s", 0, 1, 1, 1, "on"), ("r", 1, 2, 1, 1, "on"), ("e", 900, 901, 1, 1, "on"),
            ("f", 901, 902, 1, 1, "on"), ("g", 902, 903, 1, 1, "on"), ("h", 1100, 1105, 1, 1, "on"),
            ("i", 1105, 1112, 1, 1, "on"),
        )
        arrows = (("l", "e"), ("s", "r"), ("r", "r"), ("r", "e"), ("e", "f"), ("f", "g"), ("g", "h"), ("h", "i"))
        plan = Plan(reel, pieces, arrows, ("l", "s"), ("i",))
        spans = Spans(plan, Book(0, 0))
        # The cue of h and i stays on over two pieces, too, but no ring makes it longer.
        self.assertEqual(tuple(spans), ((5, None, True), (10, 10, True)))
        self.assertEqual(spans.shortest(0), ("s", "r", "e", "f", "g", "h", "i"))
        without = Plan(reel, pieces, arrows[:2] + arrows[3:], ("l", "s"), ("i",))
        self.assertEqual(tuple(Spans(without, Book(0, 0))), ((5, 903, True), (10, 10, True)))

    def test_brought_together_by_close(self):
        reel = Reel(20, ((2, 4, "ann", "good evening"), (12, 14, "bob", "late")))
        pieces = (("a", 0, 6, 1, 1, "on"), ("b", 11, 15, 1, 1, "on"))
        plan = Plan(reel, pieces, (("a", "a"), ("a", "b")), ("a",), ("b",))
        self.assertEqual(Spans(plan, Book(0, 3))[0], (2, 2, True))
        self.assertEqual(Spans(plan, Book(0, 4))[0], (2, 5, True))
        self.assertEqual(Spans(plan, Book(0, 4)).shortest(0), ("a", "a", "b"))
        # With close 5 those of a are brought together, also the one held until the cue of b comes.
        self.assertEqual(Spans(plan, Book(0, 5))[0], (5, None, True))
        self.assertEqual(Spans(plan, Book(0, 5)).shortest(0), ("a", "b"))

    def test_held_until_the_next_one(self):
        reel = Reel(20, ((2, 4, "ann", "good evening"), (5, 6, "bob", "late")))
        pieces = (("a", 0, 4, 1, 1, "on"), ("b", 4, 5, 1, 1, "on"), ("c", 5, 7, 1, 1, "on"))
        plan = Plan(reel, pieces, (("a", "b"), ("b", "b"), ("b", "c")), ("a",), ("c",))
        for close, span in ((0, (2, 2, True)), (1, (2, 2, True)), (2, (2, 3, True)), (4, (2, 5, True))):
            self.assertEqual(Spans(plan, Book(0, close))[0], span)
        self.assertEqual(Spans(plan, Book(0, 4)).shortest(0), ("a", "b", "b", "b", "b", "c"))
        self.assertEqual(Spans(plan, Book(0, 100))[0], (2, 101, True))

    def test_a_ring_that_does_not_make_it_longer(self):
        # While b is shown over and over again, the cue of a has gone off.
        self.assertEqual(Spans(quiet_plan(), Book(0, 9))[0], (4, 4, True))


class LeastTest(Case):
    def test_the_first_of_several(self):
        reel = Reel(20, ((2, 8, "ann", "good evening"),))
        pieces = (("a", 0, 8, 1, 1, "on"), ("b", 4, 6, 1, 1, "on"), ("c", 2, 4, 1, 1, "back"), ("d", 10, 12, 1, 1, "on"))
        arrows = (("a", "d"), ("d", "b"), ("d", "c"), ("d", "a"))
        plan = Plan(reel, pieces, arrows, ("d",), ("c", "b", "a"))
        spans = Spans(plan, Book(0, 0))
        self.assertEqual(spans[0], (2, 6, True))
        self.assertEqual(spans.shortest(0), ("d", "b"))
        plan = Plan(reel, pieces, arrows, ("d", "c"), ("c", "b", "a"))
        self.assertEqual(Spans(plan, Book(0, 0)).shortest(0), ("c",))

    def test_the_least_version_that_lacks_one(self):
        plan = example_plan()
        more = Plan(plan.reel, plan.pieces + (("d", 4, 6, 1, 1, "on"),), plan.arrows + (("c", "d"), ("d", "d")),
                    ("a", "c"), ("b", "d"))
        spans = Spans(more, Book(0, 0))
        self.assertEqual(spans.lacking(0), ("c", "d"))
        self.assertEqual(spans.lacking(1), None)
        self.assertEqual(spans.lacking(2), None)

    def test_against_versions_one_by_one(self):
        dice = random.Random(51)
        seen = {"endless": 0, "lacking": 0, "sure": 0, "never": 0}
        for plan in random_plans(51, 200, 3) + rich_plans(52, 200, 3):
            book = Book(dice.randint(0, 4), dice.randint(0, 6))
            try:
                spans = Spans(plan, book)
            except TooMany:
                continue
            told = [(row, carried(plan, book, row)) for row in versions(plan, 7)]
            for cue in range(len(plan.reel)):
                self.check_cue(plan, book, spans, told, cue, seen)
        self.assertGreater(min(seen.values()), 15)

    def check_cue(self, plan, book, spans, told, cue, seen):
        """The span of a cue fits all the versions told, and is reached in those that are told to reach it."""
        least, greatest, sure = spans[cue]
        found = [(min(over - begun for one, begun, over in rows if one == cue), version)
                 for version, rows in told if cue in [row[0] for row in rows]]
        without = [version for version, rows in told if cue not in [row[0] for row in rows]]
        self.assertIs(sure, spans.lacking(cue) is None)
        seen["sure" if sure else "lacking"] += 1
        if without:
            self.assertEqual(spans.lacking(cue), without[0])
        elif not sure:
            self.assertGreater(len(spans.lacking(cue)), 7)
        if least is None:
            seen["never"] += 1
            self.assertEqual((greatest, sure, spans.shortest(cue), found), (None, False, None, []))
            return
        shortest = spans.shortest(cue)
        self.assertTrue(is_version(plan, shortest))
        self.assertEqual(min(lengths_in(plan, book, shortest, cue)), least)
        if len(shortest) <= 7:
            self.assertEqual(shortest, [version for length, version in found if length == least][0])
        for length, _ in found:
            self.assertGreaterEqual(length, least)
            self.assertTrue(length > least or len(shortest) <= 7)
        longest = max([0] + [over - begun for _, rows in told for one, begun, over in rows if one == cue])
        if greatest is None:
            seen["endless"] += 1
        else:
            self.assertLessEqual(longest, greatest)

    def test_greatest_against_rules(self):
        dice = random.Random(53)
        seen = [0, 0]
        for plan in rich_plans(53, 150, 3):
            book = Book(dice.randint(0, 4), dice.randint(0, 6))
            try:
                spans = Spans(plan, book)
                lengths = [greatest for least, greatest, _ in spans if least is not None]
                if None in lengths:
                    self.assertIs(bool(AllVersions(plan, book, Rules(long=60))), False)
                    seen[0] += 1
                elif lengths:
                    ticks = (max(lengths) + plan.grain - 1) // plan.grain
                    self.assertIs(bool(AllVersions(plan, book, Rules(long=ticks))), True)
                    self.assertIs(ticks > 1 and bool(AllVersions(plan, book, Rules(long=ticks - 1))), False)
                    seen[1] += 1
            except TooMany:
                continue
        self.assertGreater(min(seen), 20)


class BoundTest(Case):
    def test_as_many_standings_as_are_let(self):
        # One for each gap of b behind a, up to the horizon and one more; the last ones are those of more starts.
        plan = quiet_plan()
        spans = Spans(plan, Book(0, 100))
        self.assertEqual(spans[0], (4, 4, True))
        reel = Reel(20, ((0, 4, "ann", "good evening"),))
        pieces = [("a", 0, 4, 1, 4, "on"), ("b", 4, 5, 1, 4, "on")]
        arrows = (("a", "b"), ("b", "b"))
        # The grain is 4: one for a, one for each gap of 1 to 4 * 99 + 1 grains.
        plan = Plan(reel, pieces, arrows, ("a",), ("b",))
        self.assertEqual(len(AllVersions(plan, Book(0, 99), Rules())), 398)
        self.assertEqual(Spans(plan, Book(0, 99))[0], (4, 4, True))
        self.fails(TooMany, "standing", Spans, plan, Book(0, 100))
        more = pieces + [("c", 6, 7, 1, 1, "on"), ("d", 6, 7, 1, 1, "on")]
        plan = Plan(reel, more, arrows, ("a", "c", "d"), ("b", "c", "d"))
        self.assertEqual(len(AllVersions(plan, Book(0, 99), Rules())), 400)
        self.assertEqual(Spans(plan, Book(0, 99))[0], (4, 4, False))
        self.assertEqual(Spans(plan, Book(0, 99)).lacking(0), ("c",))
        more.append(("e", 6, 7, 1, 1, "on"))
        plan = Plan(reel, more, arrows, ("a", "c", "d", "e"), ("b", "c", "d", "e"))
        self.fails(TooMany, "standing", Spans, plan, Book(0, 99))
