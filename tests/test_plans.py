"""[4], [6]: plans, their grains, strips and sends."""

from seamfast.errors import (
    BadArrow, BadEnd, BadPiece, BadStart, TooMany, Twice, Unknown, Unreached,
)
from seamfast.plans import Plan
from seamfast.reels import Reel
from tests.samples import ARROWS, PIECES, Case, example_plan, example_reel, random_plans, seen_sends, seen_showings


def plan(pieces=PIECES, arrows=ARROWS, starts=("a",), ends=("b",)):
    return Plan(example_reel(), pieces, arrows, starts, ends)


class FormTest(Case):
    def test_example(self):
        made = plan()
        self.assertEqual((made.pieces, made.arrows, made.starts, made.ends), (PIECES, ARROWS, ("a",), ("b",)))
        self.assertEqual(made.reel, example_reel())
        self.assertEqual(made.names, ("a", "b", "c"))
        self.assertEqual(list(made), ["a", "b", "c"])
        self.assertEqual(len(made), 3)
        self.assertEqual(Plan.WAYS, ("on", "back"))
        self.assertEqual(made.WAYS, ("on", "back"))

    def test_bad_pieces(self):
        bad = (
            ("B", 0, 5, 1, 1, "on"), ("", 0, 5, 1, 1, "on"), (None, 0, 5, 1, 1, "on"), ("b", -1, 5, 1, 1, "on"),
            ("b", 5, 5, 1, 1, "on"), ("b", 6, 5, 1, 1, "on"), ("b", 0, 21, 1, 1, "on"), ("b", False, 5, 1, 1, "on"),
            ("b", 0, True, 1, 1, "on"), ("b", 0, 5, 0, 1, "on"), ("b", 0, 5, 7, 1, "on"), ("b", 0, 5, 1, 0, "on"),
            ("b", 0, 5, 1, 7, "on"), ("b", 0, 5, 2, 4, "on"), ("b", 0, 5, 2, 2, "on"), ("b", 0, 5, True, 1, "on"),
            ("b", 0, 5, 1, True, "on"), ("b", 0, 5, 1, 1, "up"), ("b", 0, 5, 1, 1, None), ("b", 0, 5, 1, 1, ["on"]),
            ("b", 0, 5, 1, 1), ("b", 0, 5, 1, 1, "on", 1), None, "b", "abcdef", 5, ("b", "0", 5, 1, 1, "on"),
        )
        for piece in bad:
            self.fails(BadPiece, 1, plan, (PIECES[0], piece), None, None, None)
            self.fails(BadPiece, 1, plan, (PIECES[0], piece, None, PIECES[0]), None, None, None)
        for thing in ((), [], None, "abc", 4, {}):
            self.fails(BadPiece, -1, plan, thing, None, None, None)

    def test_many_pieces(self):
        pieces = [("abcdefghijklm"[k], k, k + 1, 1, 1, "on") for k in range(13)]
        names = [piece[0] for piece in pieces]
        self.assertEqual(len(plan(pieces[:12], (), names[:12], names[:12])), 12)
        self.fails(TooMany, "piece", plan, pieces, None, None, None)
        self.fails(TooMany, "piece", plan, pieces[:12] + [pieces[0]], None, None, None)
        self.fails(BadPiece, 12, plan, pieces[:12] + [None], None, None, None)

    def test_twice(self):
        piece = ("c", 1, 2, 1, 1, "on")
        self.fails(Twice, "b", plan, PIECES + (("b", 1, 2, 1, 1, "on"), piece), None, None, None)
        self.fails(Twice, "c", plan, PIECES + (piece, ("b", 1, 2, 1, 1, "on")), None, None, None)

    def test_bad_arrows(self):
        for arrow in (("a", "d"), ("d", "a"), ("a",), ("a", "b", "c"), "ab", None, ("a", None), ("a", ["b"]), ("a", "b")):
            self.fails(BadArrow, 3, plan, PIECES, ARROWS + (arrow,), None, None)
            self.fails(BadArrow, 3, plan, PIECES, ARROWS + (arrow, None), None, None)
        self.fails(BadArrow, 1, plan, PIECES, (["a", "b"], ("a", "b")), None, None)
        for thing in (None, "ab", 4, {}):
            self.fails(BadArrow, -1, plan, PIECES, thing, None, None)

    def test_bad_starts_and_ends(self):
        for name in ("d", "a", None, True, ("b",), ["b"], 1):
            self.fails(BadStart, 1, plan, PIECES, ARROWS, ("a", name), None)
            self.fails(BadStart, 1, plan, PIECES, ARROWS, ["a", name, name], None)
            self.fails(BadEnd, 1, plan, PIECES, ARROWS, ("a",), ("a", name))
        for thing in ((), [], None, "a", 4, {}):
            self.fails(BadStart, -1, plan, PIECES, ARROWS, thing, None)
            self.fails(BadEnd, -1, plan, PIECES, ARROWS, ("a",), thing)

    def test_unreached(self):
        more = PIECES + (("d", 0, 5, 1, 1, "on"), ("e", 0, 5, 1, 1, "on"))
        self.fails(Unreached, "d", plan, more, ARROWS + (("d", "e"), ("e", "b")))
        self.fails(Unreached, "d", plan, more, ARROWS + (("a", "d"), ("a", "e"), ("e", "d")))
        self.fails(Unreached, "e", plan, more, ARROWS + (("a", "d"), ("d", "b"), ("d", "e"), ("e", "e")))
        self.fails(Unreached, "b", plan, PIECES, ARROWS, ("c",), ("c",))
        self.assertEqual(len(plan(more, ARROWS + (("a", "d"), ("d", "e"), ("e", "b")))), 5)
        self.fails(Unreached, "b", plan, PIECES, (("a", "c"), ("c", "a")), ("a", "b"), ("a",))
        self.fails(Unreached, "a", plan, PIECES, (("c", "b"),), ("a", "c"), ("b",))

    def test_lists_are_taken_as_tuples(self):
        pieces = [list(piece) for piece in PIECES]
        arrows = [list(arrow) for arrow in ARROWS]
        starts = ["a"]
        ends = ["b"]
        made = plan(pieces, arrows, starts, ends)
        self.assertEqual(made, plan())
        pieces[0][1] = 3
        arrows[0][1] = "a"
        arrows.pop()
        starts.append("b")
        ends.clear()
        self.assertEqual((made.pieces, made.arrows, made.starts, made.ends), (PIECES, ARROWS, ("a",), ("b",)))
        self.assertEqual(made.followers("a"), ("b", "c"))

    def test_equal(self):
        made = plan()
        self.assertIs(made == plan(), True)
        self.assertIs(made == plan(PIECES[::-1]), False)
        self.assertIs(made == plan(arrows=ARROWS[::-1]), False)
        two = plan(starts=("a", "c"), ends=("b", "a"))
        self.assertIs(two == plan(starts=("c", "a"), ends=("b", "a")), False)
        self.assertIs(two == plan(starts=("a", "c"), ends=("a", "b")), False)
        self.assertIs(two == plan(starts=("a", "c"), ends=("b", "a")), True)
        other = Plan(Reel(20), PIECES, ARROWS, ("a",), ("b",))
        self.assertIs(made == other, False)
        for thing in (None, 3, PIECES, "plan", example_reel()):
            self.assertIs(made == thing, False)

    def test_in(self):
        made = plan()
        self.assertIs("a" in made, True)
        for thing in ("d", "", "ab", True, 0, None, ("a",), ["a"], {}):
            self.assertIs(thing in made, False)


class ToldTest(Case):
    def test_example(self):
        made = example_plan()
        self.assertEqual(made.grain, 2)
        self.assertEqual([made.factor_of(name) for name in "abc"], [2, 1, 2])
        self.assertEqual([made.shown_of(name) for name in "abc"], [20, 10, 16])
        self.assertEqual(made.piece_of("b"), PIECES[1])
        self.assertEqual(made.strip_of("a"), ((0, 0, 8), (1, 12, 20)))
        self.assertEqual(made.strip_of("b"), ((1, 0, 2), (2, 4, 10)))
        self.assertEqual(made.sends_of("b"), ((2, 4),))
        self.assertEqual(made.strip_of("c"), ((2, 0, 4), (1, 8, 16)))
        self.assertEqual(made.sends_of("c"), ((1, 8),))
        self.assertEqual(made.sends_of("a"), ((0, 0), (1, 12)))

    def test_followers_are_ascending(self):
        made = plan(arrows=(("a", "c"), ("c", "a"), ("a", "b"), ("a", "a")))
        self.assertEqual(made.followers("a"), ("a", "b", "c"))
        self.assertEqual(made.followers("b"), ())

    def test_grain_is_the_least_common_multiple(self):
        pieces = (("a", 0, 10, 1, 4, "on"), ("b", 10, 20, 5, 6, "on"), ("c", 8, 16, 3, 1, "back"))
        made = plan(pieces)
        self.assertEqual(made.grain, 12)
        self.assertEqual([made.factor_of(name) for name in "abc"], [3, 10, 36])
        self.assertEqual([made.shown_of(name) for name in "abc"], [30, 100, 288])

    def test_pieces_that_touch_cues(self):
        pieces = (("a", 4, 6, 1, 1, "on"), ("b", 12, 14, 1, 1, "back"), ("c", 7, 9, 1, 1, "back"))
        made = plan(pieces)
        self.assertEqual((made.strip_of("a"), made.sends_of("a")), ((), ()))
        self.assertEqual((made.strip_of("b"), made.sends_of("b")), ((), ()))
        self.assertEqual((made.strip_of("c"), made.sends_of("c")), (((1, 0, 2),), ()))

    def test_pieces_that_cut_cues(self):
        pieces = (("a", 2, 16, 1, 1, "on"), ("b", 2, 16, 1, 1, "back"), ("c", 0, 20, 1, 1, "back"))
        made = plan(pieces)
        self.assertEqual(made.strip_of("a"), ((0, 0, 2), (1, 4, 10), (2, 12, 14)))
        self.assertEqual(made.sends_of("a"), ((1, 4), (2, 12)))
        self.assertEqual(made.strip_of("b"), ((2, 0, 2), (1, 4, 10), (0, 12, 14)))
        self.assertEqual(made.sends_of("b"), ((1, 4), (0, 12)))
        self.assertEqual(made.sends_of("c"), ((2, 0), (1, 8), (0, 16)))

    def test_strips_and_sends_against_the_picture(self):
        for made in random_plans(1, 300):
            for name in made:
                self.assertEqual(made.strip_of(name), seen_showings(made, (name,)))
                self.assertEqual(made.sends_of(name), seen_sends(made, (name,)))

    def test_unknown_names(self):
        made = example_plan()
        asked = (made.piece_of, made.factor_of, made.shown_of, made.followers, made.strip_of, made.sends_of)
        for ask in asked:
            for name in ("d", "", None, True, 0, ("a",), ["a"], {}):
                self.fails(Unknown, (name,), ask, name)
