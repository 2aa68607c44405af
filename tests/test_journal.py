"""[46]: journals."""

import random

from seamfast.errors import (
    BadArrow, BadCue, BadEnd, BadLine, BadPiece, BadStart, BadText, CaptionError, InUse, TooMany, Torn, Twice, Unknown,
    Unreached,
)
from seamfast.house import House
from seamfast.journal import read_journal, taken_up, write_journal
from seamfast.plans import Plan
from seamfast.plantext import write_plan
from seamfast.reels import Reel
from seamfast.reeltext import write_reel
from seamfast.rolls import Roll
from seamfast.rolltext import read_roll
from tests.samples import Case, example_plan, random_plans, random_roll
from tests.test_house import example_house
from tests.test_lines import NO_LINES

JOURNAL = (
    "reel tape", "reel 20", "cue 0 4 ann good evening", "cue 6 12 bob it is late", "cue 14 20 ann so we go", "done",
    "plan cut tape", "piece a 0 10 1 1 on", "piece b 10 20 1 2 on", "piece c 8 16 1 1 back", "arrow a b", "arrow a c", "arrow c a",
    "start a", "end b", "done",
    "roll show cut a 3(c a) b",
)
# The number of the first line of each deed, and of the line behind all.
DEEDS = (0, 6, 16, 17)


def random_house(dice, plans):
    """A house with many deeds, some of which are about things that were struck later."""
    house = House()
    for _ in range(dice.randint(0, 25)):
        name = "".join(dice.choice("abc") for _ in range(dice.randint(1, 2)))
        plan = dice.choice(plans)
        names = list(house) or ["none"]
        try:
            kind = dice.choice(("reel", "plan", "roll", "strike"))
            if kind == "reel":
                house.keep_reel(name, plan.reel)
            elif kind == "plan":
                of = dice.choice(names)
                reel = house[of] if house.over(of) is None else plan.reel
                house.keep_plan(name, of, [one for one in plans if one.reel == reel][0])
            elif kind == "roll":
                of = dice.choice(names)
                house.keep_roll(name, of, Roll(house[of], random_roll(dice, house[of])))
            else:
                house.strike(dice.choice(names))
        except (CaptionError, TypeError, AttributeError):
            continue
    return house


def deed_ends(house):
    """The numbers of the lines behind each deed."""
    ends = [0]
    for deed in house.deeds:
        many = {"reel": lambda: len(write_reel(deed[2])) + 2, "plan": lambda: len(write_plan(deed[3])) + 2}.get(deed[0], lambda: 1)()
        ends.append(ends[-1] + many)
    return ends


class WriteTest(Case):
    def test_example(self):
        self.assertEqual(write_journal(example_house()), JOURNAL)
        self.assertEqual(read_journal(JOURNAL), example_house())
        self.assertEqual(read_journal(list(JOURNAL)), example_house())
        self.assertEqual(taken_up(JOURNAL), (example_house(), 17))

    def test_empty(self):
        self.assertEqual(write_journal(House()), ())
        for lines in ((), []):
            self.assertEqual(read_journal(lines), House())
            self.assertEqual(taken_up(lines), (House(), 0))

    def test_things_that_were_struck_later(self):
        house = example_house()
        house.strike("show")
        house.strike("cut")
        house.keep_reel("cut", Reel(7))
        lines = JOURNAL + ("strike show", "strike cut", "reel cut", "reel 7", "done")
        self.assertEqual(write_journal(house), lines)
        again = read_journal(lines)
        self.assertEqual(again, house)
        self.assertEqual((list(again), again.deed_count), (["tape", "cut"], 6))

    def test_rolls_of_one_and_of_many_words(self):
        house = example_house()
        deep = (2, ((3, ((4, ((5, ((10 ** 39, ("a",)),)),)),)),))
        rolls = (("a",), ((2, ("a",)),), ("a", "b", (7, ("c", (2, ("a", "b")), "c")), "a"), (deep,), ("b",) * 60)
        for number, written in enumerate(rolls):
            house.keep_roll("abcde"[number], "cut", Roll(example_plan(), written))
        lines = write_journal(house)
        self.assertEqual(lines[17:20], ("roll a cut a", "roll b cut 2(a)", "roll c cut a b 7(c 2(a b) c) a"))
        self.assertEqual(read_journal(lines), house)

    def test_plans_over_several_reels(self):
        house = House()
        plan = example_plan()
        reel = Reel(20, plan.reel.cues[1:])
        other = Plan(reel, plan.pieces, plan.arrows, plan.starts, plan.ends)
        house.keep_reel("one", plan.reel)
        house.keep_reel("two", reel)
        house.keep_plan("three", "two", other)
        house.keep_plan("four", "one", plan)
        again = read_journal(write_journal(house))
        self.assertEqual(again, house)
        self.assertEqual((again["three"].reel, again["four"].reel), (reel, plan.reel))

    def test_written_and_read_back(self):
        dice = random.Random(471)
        plans = random_plans(471, 5, 2)
        deeds = []
        for _ in range(200):
            house = random_house(dice, plans)
            lines = write_journal(house)
            self.assertEqual(read_journal(lines), house)
            self.assertEqual(taken_up(lines), (house, len(lines)))
            self.assertEqual(deed_ends(house)[-1], len(lines))
            self.assertEqual(list(read_journal(lines)), list(house))
            deeds.extend(deed[0] for deed in house.deeds)
        self.assertEqual(set(deeds), {"reel", "plan", "roll", "strike"})


class TornTest(Case):
    def torn(self, lines, line, error, told):
        """The journal is torn at this line, by this error with these attributes."""
        caught = self.fails(Torn, line, read_journal, lines)
        cause = caught.__cause__
        self.assertIs(cause.__class__, error)
        self.assertEqual(tuple(vars(cause).values()), told if isinstance(told, tuple) else (told,))
        house, many = taken_up(lines)
        self.assertEqual(many, line)
        self.assertEqual(house, read_journal(lines[:line]))

    def test_each_line_torn_away(self):
        for end in range(17):
            if end in DEEDS:
                self.assertEqual(read_journal(JOURNAL[:end]).deed_count, DEEDS.index(end))
                continue
            first = max(number for number in DEEDS if number <= end)
            # It ends amid a deed.
            self.torn(JOURNAL[:end], first, BadLine, (end, 0))

    def test_each_line_exchanged(self):
        for number in range(17):
            first = max(line for line in DEEDS if line <= number)
            for line, word in (("", 0), (" ", 0), ("what", 0), (JOURNAL[number] + " ", None), (" " + JOURNAL[number], 0), ("Done", 0)):
                if word is None:
                    word = len(JOURNAL[number].split(" "))
                self.torn(JOURNAL[:number] + (line,) + JOURNAL[number + 1:], first, BadLine, (number, word))
            for thing in NO_LINES:
                self.torn(JOURNAL[:number] + (thing,) + JOURNAL[number + 1:], first, BadLine, (number, 0))
                self.torn(JOURNAL[:number] + (thing,), first, BadLine, (number, 0))

    def test_each_line_left_out(self):
        errors = {
            0: (0, BadLine, (0, 1)), 1: (0, BadLine, (1, 0)), 5: (0, BadLine, (5, 0)), 6: (6, BadLine, (6, 0)), 15: (6, BadLine, (15, 0)),
            7: (6, BadArrow, 0), 9: (6, BadArrow, 1), 10: (6, Unreached, "a"), 13: (6, BadStart, -1), 14: (6, BadEnd, -1),
        }
        for number, told in errors.items():
            self.torn(JOURNAL[:number] + JOURNAL[number + 1:], *told)
        self.assertEqual(read_journal(JOURNAL[:16]).deed_count, 2)
        # A cue less is another reel, over which all else can be made.
        house = read_journal(JOURNAL[:2] + JOURNAL[3:])
        self.assertEqual((house.deed_count, len(house["tape"])), (3, 2))

    def test_each_line_doubled(self):
        for number, first, error, told in (
            (0, 0, BadLine, (1, 1)), (1, 0, BadLine, (2, 0)), (2, 0, BadCue, 1), (5, 6, BadLine, (6, 0)), (6, 6, BadLine, (7, 0)),
            (7, 6, Twice, "a"), (13, 6, BadStart, 1), (15, 16, BadLine, (16, 0)), (16, 17, Twice, "show"),
        ):
            self.torn(JOURNAL[:number + 1] + JOURNAL[number:], first, error, told)

    def test_heads(self):
        for line, word in (
            ("reel", 1), ("reel ", 1), ("reel A", 1), ("reel abcdefghi", 1), ("reel a b", 2), ("reel  a", 1), ("reel 20", 1), ("reel a ", 2),
        ):
            self.torn((line,) + JOURNAL[1:], 0, BadLine, (0, word))
        for line, word in (
            ("plan", 1), ("plan cut", 2), ("plan cut ", 2), ("plan Cut tape", 1), ("plan cut 5", 2), ("plan cut tape x", 3), ("plan  cut tape", 1),
        ):
            self.torn(JOURNAL[:6] + (line,) + JOURNAL[7:], 6, BadLine, (6, word))
        for line, word in (
            ("roll", 1), ("roll show", 2), ("roll show cut", 3), ("roll show cut ", 3), ("roll show cut  a", 3), ("roll show cut a  b", 4),
            ("roll show cut a ", 4), ("roll Show cut a", 1), ("roll show Cut a", 2), ("roll  show cut a", 1), ("roll show  cut a", 2),
        ):
            self.torn(JOURNAL[:16] + (line,), 16, BadLine, (16, word))
        for line, word in (("strike", 1), ("strike ", 1), ("strike Show", 1), ("strike show x", 2), ("strike show ", 2), ("strikes show", 0)):
            self.torn(JOURNAL + (line, None), 17, BadLine, (17, word))
        for line in ("done", "cue 0 4 ann x", "piece a 0 1 1 1 on", "tape", ""):
            self.torn((line,) + JOURNAL, 0, BadLine, (0, 0))
            self.torn(JOURNAL + (line,), 17, BadLine, (17, 0))
        self.torn(JOURNAL[:5] + ("done done",) + JOURNAL[6:], 0, BadLine, (5, 1))

    def test_lines_within(self):
        for number, line, word in (
            (1, "reel 0", 1), (1, "reel 20 20", 2), (2, "cue 0 4 ann", 4), (3, "cue 6 12 bob it  is", 5), (4, "cue 14 20 ann 5%", 4),
            (7, "piece a 0 10 1 7 on", 5), (8, "piece b 10 20 1 2 off", 6), (10, "arrow a", 2), (13, "start a b", 2), (14, "end 5", 1),
        ):
            first = max(line for line in DEEDS if line <= number)
            self.torn(JOURNAL[:number] + (line,) + JOURNAL[number + 1:], first, BadLine, (number, word))

    def test_things_that_cannot_be_made(self):
        for number, line, error, told in (
            (2, "cue 0 0 ann x", BadCue, 0), (3, "cue 3 12 bob x", BadCue, 1), (1, "reel 19", BadCue, 2), (7, "piece a 0 10 2 4 on", BadPiece, 0),
            (13, "start d", BadStart, 0), (10, "arrow b a", Unreached, "a"), (14, "end a", Unreached, "b"),
            (16, "roll show cut a 1(c a)", BadText, 2), (16, "roll show cut d", BadText, 0), (16, "roll show cut 3(a", BadText, 3),
            (16, "roll show cut 3( a)", BadText, 2), (16, "roll show cut \u00e4", BadText, 0),
            (16, "roll show cut " + " ".join("a" * 61), TooMany, "item"), (16, "roll show tape a", Unknown, "tape"),
            (16, "roll show show a", Unknown, "show"), (16, "roll show other d", Unknown, "other"),
            (16, "strike tape", InUse, "cut"), (16, "strike show", Unknown, "show"), (6, "plan cut other", Unknown, "other"),
            (6, "plan cut cut", Unknown, "cut"), (6, "plan tape tape", Twice, "tape"), (16, "roll cut cut a", Twice, "cut"),
            (16, "roll cut cut d", BadText, 0), (16, "roll tape nothing a", Unknown, "nothing"), (6, "plan tape none", Unknown, "none"),
        ):
            lines = JOURNAL[:number] + (line,) + JOURNAL[number + 1:]
            first = max(one for one in DEEDS if one <= number)
            self.torn(lines, first, error, told)
        # In the place of making it: ahead of the errors of the plan itself, behind those of its lines.
        bad = JOURNAL[:6] + ("plan cut other",) + JOURNAL[7:13] + ("start d",) + JOURNAL[14:]
        self.torn(bad, 6, Unknown, "other")
        self.torn(bad[:13] + ("start 5",) + bad[14:], 6, BadLine, (13, 1))
        # What is made is judged ahead of adding it.
        self.torn(JOURNAL[:6] + ("reel tape", "reel 5", "cue 0 6 a x", "done"), 6, BadCue, 0)
        self.torn(JOURNAL[:6] + ("reel tape", "reel 5", "cue 0 5 a x", "done"), 6, Twice, "tape")

    def test_the_thirty_first_thing(self):
        lines = ()
        for number in range(30):
            lines += ("reel " + "x" * (number // 10) + "abcdefghij"[number % 10], "reel 5", "done")
        self.assertEqual(len(read_journal(lines)), 30)
        self.torn(lines + ("reel z", "reel 5", "done"), 90, TooMany, "thing")
        self.assertEqual(read_journal(lines + ("strike a", "reel z", "reel 5", "done")).deed_count, 32)


class TakenUpTest(Case):
    def test_against_ever_shorter_beginnings(self):
        dice = random.Random(473)
        plans = random_plans(471, 5, 2)
        seen = set()
        for _ in range(150):
            lines = list(write_journal(random_house(dice, plans)))
            for _ in range(dice.randint(0, 2)):
                at = dice.randrange(len(lines) + 1)
                kind = dice.choice(("leave out", "put in", "exchange"))
                line = dice.choice(lines + ["done", "strike a", "reel a", None, "roll a b a", ""])
                if kind == "put in":
                    lines.insert(at, line)
                elif at < len(lines):
                    lines[at:at + 1] = [] if kind == "leave out" else [line]
            lines = tuple(lines)
            house, many = taken_up(lines)
            for end in reversed(range(len(lines) + 1)):
                try:
                    longest = read_journal(lines[:end])
                except Torn:
                    continue
                break
            self.assertEqual((house, many), (longest, end))
            if many < len(lines):
                self.fails(Torn, many, read_journal, lines)
            seen.add(many == len(lines))
            # What is taken up goes on as any house does.
            self.assertEqual(read_journal(write_journal(house)), house)
            self.assertEqual(write_journal(house), lines[:many])
        self.assertEqual(seen, {True, False})

    def test_the_house_goes_on(self):
        house, many = taken_up(JOURNAL + ("strike cut", "strike show"))
        self.assertEqual((many, list(house)), (17, ["tape", "cut", "show"]))
        house.strike("show")
        house.keep_roll("show", "cut", read_roll(house["cut"], "a b"))
        self.assertEqual(write_journal(house), JOURNAL + ("strike show", "roll show cut a b"))

    def test_what_was_passed_stays(self):
        lines = list(JOURNAL) + ["what"]
        taken_up(lines)
        self.fails(Torn, 17, read_journal, lines)
        self.assertEqual(lines, list(JOURNAL) + ["what"])
