"""[11]: the lines of reels and plans."""

from seamfast.errors import (
    BadArrow, BadCue, BadEnd, BadLine, BadPiece, BadStart, TooMany, Twice, Unreached,
)
from seamfast.plans import Plan
from seamfast.plantext import read_plan, write_plan
from seamfast.reels import Reel
from seamfast.reeltext import read_reel, write_reel
from tests.samples import Case, example_plan, example_reel, random_plans

REEL = ("reel 20", "cue 0 4 ann good evening", "cue 6 12 bob it is late", "cue 14 20 ann so we go")
PLAN = (
    "piece a 0 10 1 1 on", "piece b 10 20 1 2 on", "piece c 8 16 1 1 back", "arrow a b", "arrow a c", "arrow c a",
    "start a", "end b",
)
NO_LINES = (None, 5, True, ("reel", "20"), ["reel 20"], b"reel 20", {})


def changed(lines, number, line):
    """The lines with another one in the place of one."""
    return lines[:number] + (line,) + lines[number + 1:]


class ReelLinesTest(Case):
    def test_example(self):
        self.assertEqual(write_reel(example_reel()), REEL)
        self.assertEqual(read_reel(REEL), example_reel())
        self.assertEqual(read_reel(list(REEL)), example_reel())
        self.assertEqual(read_reel(("reel 1",)), Reel(1))
        self.assertEqual(write_reel(Reel(2000)), ("reel 2000",))

    def test_written_and_read_again(self):
        for plan in random_plans(30, 60):
            self.assertEqual(read_reel(write_reel(plan.reel)), plan.reel)
            self.assertEqual(read_plan(plan.reel, list(write_plan(plan))), plan)

    def test_lines_that_end_too_early(self):
        self.fails(BadLine, (0, 0), read_reel, ())
        self.fails(BadLine, (0, 0), read_reel, [])

    def test_bad_first_lines(self):
        bad = (
            ("", 0), (" ", 0), ("Reel 20", 0), ("cue 0 4 ann good", 0), (" reel 20", 0), ("reel", 1), ("reel ", 1),
            ("reel  20", 1), ("reel 0", 1), ("reel 2001", 1), ("reel 020", 1), ("reel +20", 1), ("reel -20", 1),
            ("reel 2.0", 1), ("reel x", 1), ("reel 00", 1), ("reel 20 ", 2), ("reel 20 20", 2), ("reel 20  20", 2),
            ("reel 1e3", 1), ("reel \u0662\u0660", 1), ("reel " + "9" * 1990, 1), ("reel20", 0), ("reel 20\n", 1),
        )
        for line, word in bad:
            self.fails(BadLine, (0, word), read_reel, (line,))
            self.fails(BadLine, (0, word), read_reel, (line, None, ""))

    def test_bad_cues(self):
        bad = (
            ("", 0), (" ", 0), ("reel 20", 0), ("cues 6 12 bob it", 0), (" cue 6 12 bob it", 0), ("cue", 1), ("cue ", 1),
            ("cue 6", 2), ("cue 6 ", 2), ("cue 6 12", 3), ("cue 6 12 bob", 4), ("cue 6 12 bob ", 4),
            ("cue  6 12 bob it", 1), ("cue 6  12 bob it", 2), ("cue 6 12  bob it", 3), ("cue 6 12 bob  it", 4),
            ("cue 6 12 bob it  is", 5), ("cue 6 12 bob it ", 5), ("cue 6 12 bob it is ", 6), ("cue 06 12 bob it", 1),
            ("cue 6 012 bob it", 2), ("cue +6 12 bob it", 1), ("cue -6 12 bob it", 1), ("cue 2001 12 bob it", 1),
            ("cue 6 2001 bob it", 2), ("cue 6 12 Bob it", 3), ("cue 6 12 abcdefghi it", 3), ("cue 6 12 b0b it", 3),
            ("cue 6 12 bob 100%", 4), ("cue 6 12 bob it % late", 5), ("cue x y z it", 1), ("cue 00 12 bob it", 1),
        )
        for line, word in bad:
            self.fails(BadLine, (2, word), read_reel, changed(REEL, 2, line))
            self.fails(BadLine, (2, word), read_reel, changed(REEL, 2, line) + (None, "reel 20"))
            self.fails(BadLine, (1, word), read_reel, ["reel 20", line])

    def test_no_strings(self):
        for thing in NO_LINES:
            for number in range(4):
                self.fails(BadLine, (number, 0), read_reel, changed(REEL, number, thing))
            self.fails(BadLine, (4, 0), read_reel, REEL + (thing,))

    def test_the_reels_own_errors_come_last(self):
        self.fails(BadCue, 0, read_reel, ("reel 20", "cue 4 4 ann hm", "cue 0 3 ann hm"))
        self.fails(BadLine, (2, 3), read_reel, ("reel 20", "cue 4 4 ann hm", "cue 0 3 9 hm"))
        self.fails(BadCue, 1, read_reel, ("reel 20", "cue 0 4 ann hm", "cue 3 5 ann hm"))
        self.fails(BadCue, 0, read_reel, ("reel 20", "cue 0 21 ann hm"))
        self.fails(BadCue, 0, read_reel, ("reel 20", "cue 0 0 ann hm"))
        self.fails(BadCue, 0, read_reel, ("reel 20", "cue 0 2 ann " + "h" * 61))
        cues = tuple(f"cue {k} {k + 1} ann hm" for k in range(41))
        self.assertEqual(len(read_reel(("reel 41",) + cues[:40])), 40)
        self.fails(TooMany, "cue", read_reel, ("reel 41",) + cues)
        self.fails(BadLine, (42, 0), read_reel, ("reel 41",) + cues + ("done",))

    def test_bounds(self):
        reel = read_reel(("reel 2000", "cue 0 1 a x", "cue 1999 2000 b ~ !"))
        self.assertEqual(reel.cues, ((0, 1, "a", "x"), (1999, 2000, "b", "~ !")))


class PlanLinesTest(Case):
    def test_example(self):
        self.assertEqual(write_plan(example_plan()), PLAN)
        self.assertEqual(read_plan(example_reel(), PLAN), example_plan())
        self.assertEqual(read_plan(example_reel(), list(PLAN)), example_plan())

    def test_no_lines_of_a_kind(self):
        reel = example_reel()
        self.fails(BadPiece, -1, read_plan, reel, ())
        self.fails(BadPiece, -1, read_plan, reel, PLAN[3:])
        self.fails(BadStart, -1, read_plan, reel, PLAN[:6])
        self.fails(BadStart, -1, read_plan, reel, PLAN[:6] + PLAN[7:])
        self.fails(BadEnd, -1, read_plan, reel, PLAN[:7])
        alone = read_plan(reel, ("piece a 0 20 6 5 back", "start a", "end a"))
        self.assertEqual(alone, Plan(reel, (("a", 0, 20, 6, 5, "back"),), (), ("a",), ("a",)))

    def test_bad_words(self):
        bad = (
            (1, "", 0), (1, "part b 10 20 1 2 on", 0), (1, " piece b 10 20 1 2 on", 0), (1, "piece", 1),
            (1, "piece B 10 20 1 2 on", 1), (1, "piece  b 10 20 1 2 on", 1), (1, "piece b", 2), (1, "piece b x", 2),
            (1, "piece b 010 20 1 2 on", 2), (1, "piece b -1 20 1 2 on", 2), (1, "piece b 2001 20 1 2 on", 2),
            (1, "piece b 10", 3), (1, "piece b 10 2001 1 2 on", 3), (1, "piece b 10 +20 1 2 on", 3),
            (1, "piece b 10 20", 4), (1, "piece b 10 20 0 2 on", 4), (1, "piece b 10 20 7 2 on", 4),
            (1, "piece b 10 20 01 2 on", 4), (1, "piece b 10 20 1", 5), (1, "piece b 10 20 1 0 on", 5),
            (1, "piece b 10 20 1 7 on", 5), (1, "piece b 10 20 1 2", 6), (1, "piece b 10 20 1 2 up", 6),
            (1, "piece b 10 20 1 2 on ", 7), (1, "piece b 10 20 1 2 on on", 7), (1, "piece b 10 20 1 2  on", 6),
            (3, "arrows a b", 0), (3, "arrow", 1), (3, "arrow a", 2), (3, "arrow A b", 1), (3, "arrow a 1", 2),
            (3, "arrow a b c", 3), (3, "arrow a  b", 2), (3, "arrow a b ", 3), (6, "start", 1), (6, "start ", 1),
            (6, "start A", 1), (6, "start a b", 2), (6, "start a ", 2), (7, "end", 1), (7, "end 5", 1),
            (7, "end a b", 2), (7, "ends a", 0), (7, "", 0),
        )
        for number, line, word in bad:
            self.fails(BadLine, (number, word), read_plan, example_reel(), changed(PLAN, number, line))
            self.fails(BadLine, (number, word), read_plan, example_reel(), changed(PLAN, number, line) + (None,))

    def test_lines_that_cannot_come_here(self):
        reel = example_reel()
        for number, line in ((4, PLAN[0]), (7, PLAN[3]), (7, PLAN[0]), (8, PLAN[6]), (8, PLAN[5]), (8, PLAN[1]), (8, "")):
            self.fails(BadLine, (number, 0), read_plan, reel, PLAN[:number] + (line,) + PLAN[number:])
        self.fails(BadLine, (8, 0), read_plan, reel, PLAN + ("reel 20",))

    def test_no_strings(self):
        for thing in NO_LINES:
            for number in range(8):
                self.fails(BadLine, (number, 0), read_plan, example_reel(), changed(PLAN, number, thing))

    def test_the_plans_own_errors_come_last(self):
        reel = example_reel()
        self.fails(BadPiece, 1, read_plan, reel, changed(PLAN, 1, "piece b 20 10 1 2 on"))
        self.fails(BadPiece, 1, read_plan, reel, changed(PLAN, 1, "piece b 10 21 1 2 on"))
        self.fails(BadPiece, 1, read_plan, reel, changed(PLAN, 1, "piece b 10 20 2 4 on"))
        self.fails(BadPiece, 1, read_plan, reel, changed(PLAN, 1, "piece b 0 0 1 2 on"))
        self.fails(Twice, "a", read_plan, reel, changed(PLAN, 1, "piece a 10 20 1 2 on"))
        self.fails(BadArrow, 1, read_plan, reel, changed(PLAN, 4, "arrow a d"))
        self.fails(BadStart, 0, read_plan, reel, changed(PLAN, 6, "start d"))
        self.fails(BadEnd, 0, read_plan, reel, changed(PLAN, 7, "end d"))
        self.fails(Unreached, "b", read_plan, reel, PLAN[:7] + ("end a",))
        self.fails(BadLine, (7, 2), read_plan, reel, changed(PLAN, 1, "piece b 20 10 1 2 on")[:7] + ("end b b",))
