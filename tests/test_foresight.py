"""[25], [26]: what a desk of a foresight keeps, and what the director does."""

import random

from seamfast.desks import Desk
from seamfast.errors import BadForesight, BadRow, BadWay, Beaten, TooMany
from seamfast.foresight import Foresight, judge_director, judge_thresholds
from seamfast.plans import Plan
from seamfast.reels import Reel
from seamfast.ways import versions
from seamfast.windows import first_windows, windows, windows_behind
from tests.samples import Case, example_plan, full_plan, random_plans, rich_plans
from tests.test_desks import WORDINGS, example_desk, random_desk
from tests.test_windows import BAD_FORESIGHTS, silent_plan


class Slow:
    """A desk and a director who try all levels and all answers, from all lags, round by round."""

    def __init__(self, desk, many):
        self.desk = desk
        self.windows = windows(desk.plan, many)
        self.behind = {window: windows_behind(desk.plan, many, window) for window in self.windows}
        lags = range(desk.full_points + 1)
        states = [(window, lag, coins) for window in self.windows for lag in lags for coins in range(desk.most + 1)]
        self.moves = {state: self.moves_from(*state) for state in states}
        self.ranks = {}
        number = 0
        fallen = True
        while fallen:
            number += 1
            fallen = [state for state in states if state not in self.ranks and not self.holds(state)]
            self.ranks.update({state: number for state in fallen})

    def moves_from(self, window, lag, coins):
        """What the good levels do."""
        done = [self.desk.done(window[0], level, lag, coins) for level in range(self.desk.levels)]
        return [(level, told) for level, told in enumerate(done) if told is not None]

    def holds(self, state):
        """Whether some good level leads to nothing that has fallen."""
        return any(
            all((other,) + done not in self.ranks for other in self.behind[state[0]]) for _, done in self.moves[state]
        )

    def threshold(self, window, coins):
        """The greatest lag from which the desk keeps."""
        lags = [lag for lag in range(self.desk.full_points + 1) if (window, lag, coins) not in self.ranks]
        assert lags == list(range(len(lags)))
        return len(lags) - 1

    def pick(self, state):
        """The least good level behind which the desk keeps."""
        for level, done in self.moves[state]:
            if all((other,) + done not in self.ranks for other in self.behind[state[0]]):
                return level
        return None

    def reply(self, state, done):
        """The first window with the least rank behind a good level."""
        ranks = [(self.ranks[(other,) + done], other) for other in self.behind[state[0]] if (other,) + done in self.ranks]
        return min(ranks)[1]


def small_desks(seed, many):
    """Desks with few points, over small plans, each with a foresight."""
    dice = random.Random(seed)
    told = []
    for plan in random_plans(seed, many, 3) + rich_plans(seed + 1, many, 3):
        desk = random_desk(dice, plan)
        if desk.full_points <= 48 and len(windows(plan, 1)) <= 9:
            told.append((desk, dice.choice((0, 1, 1, 2, 2, 3))))
    return told


class ExampleTest(Case):
    def test_kept(self):
        desk = example_desk(room=13, most=1)
        told = Foresight(desk, 1)
        self.assertIs(bool(told), True)
        # Level 1 of a cannot be paid, and ahead of a no more than 2 points may be left; but c can be shortened.
        self.assertEqual(told.table, ((("a", "b"), (2, 2)), (("a", "c"), (2, 2)), (("b",), (18, 18)), (("c", "a"), (22, 22))))
        self.assertEqual((len(told), tuple(told)), (4, told.table))
        self.assertIsNone(told.director)
        self.assertIs(told.desk, desk)
        self.assertEqual(told.many, 1)

    def test_a_plain_desk(self):
        plan = example_plan()
        told = Foresight(Desk.plain(plan, (2, 1), 14), 0)
        self.assertIs(bool(told), True)
        # In a the lag may be 4 at the beginning, in b 20, and in c the 16 that leave 4 at its end.
        self.assertEqual(told.table, ((("a",), (4,)), (("b",), (20,)), (("c",), (16,))))
        self.assertEqual(told.play(("a", "c", "a", "b")), ((0, 4, 0), (0, 4, 0), (0, 8, 0), (0, 4, 0)))
        self.assertEqual([told.pick(("a",), lag, 0) for lag in (0, 4, 5, 28)], [0, 0, None, None])
        self.assertEqual([told.rank(("a",), lag, 0) for lag in (0, 4, 5, 28)], [None, None, 1, 1])

    def test_a_desk_that_is_beaten(self):
        plan = example_plan()
        told = Foresight(Desk.plain(plan, (2, 1), 13), 0)
        self.assertIs(bool(told), False)
        self.assertEqual(told.director, ((("a",), 0, 0, 3), (("c",), 4, 0, 2), (("a",), 4, 0, 1)))
        self.assertEqual(told.table, ((("a",), (-1,)), (("b",), (18,)), (("c",), (-1,))))
        self.assertEqual((told.rank(("a",), 0, 0), told.rank(("c",), 4, 0), told.rank(["a"], 4, 0)), (3, 2, 1))
        self.assertEqual(told.reply(("a",), 0, 0, 0), ("c",))
        self.fails(Beaten, 0, told.play, ("a", "b"))
        self.assertIsNone(told.pick(("a",), 0, 0))
        knowing = Foresight(Desk.plain(plan, (2, 1), 13), 1)
        self.assertEqual(knowing.play(("a", "b")), ((0, 4, 0), (0, 4, 0)))
        self.fails(Beaten, 0, knowing.play, ("a", "c", "a", "b"))
        self.assertEqual(knowing.director, (
            (("a", "c"), 0, 0, 3), (("c", "a"), 4, 0, 2), (("a", "b"), 4, 0, 1),
        ))

    def test_coins_make_the_difference(self):
        # In each a one coin is paid for fewer signs; without the income there are only as many as in the purse.
        reel = Reel(20, ((0, 2, "ann", "four"),))
        pieces = (("a", 0, 2, 1, 1, "on"), ("b", 3, 5, 1, 1, "on"))
        plan = Plan(reel, pieces, (("a", "a"), ("a", "b"), ("b", "a")), ("a",), ("a",))
        wordings = (((4, 0), (2, 1)),)
        rich = Foresight(Desk(plan, wordings, (1, 1), 6, 2, 1), 0)
        self.assertIs(bool(rich), True)
        self.assertEqual(rich.table, ((("a",), (4, 4, 4)), (("b",), (6, 6, 6))))
        self.assertEqual(rich.play(("a",) * 4), ((0, 2, 2), (0, 4, 2), (1, 4, 1), (1, 4, 1)))
        poor = Foresight(Desk(plan, wordings, (1, 1), 6, 2, 0), 0)
        self.assertIs(bool(poor), False)
        self.assertEqual(poor.table, ((("a",), (-1, -1, -1)), (("b",), (-1, -1, -1))))
        # Two texts are borne at level 0 and two at level 1; at the fifth nothing is good.
        self.assertEqual(poor.director[0], (("a",), 0, 2, 5))
        self.assertIsNone(judge_director(poor.desk, 0, poor.director))

    def test_foresight_makes_the_difference(self):
        # The short wording of a is needed only ahead of b, and there is one coin.
        reel = Reel(20, ((0, 2, "ann", "x" * 8), (4, 5, "bob", "y" * 8)))
        pieces = (("a", 0, 3, 1, 1, "on"), ("b", 4, 6, 1, 1, "on"), ("c", 10, 20, 1, 1, "on"))
        plan = Plan(reel, pieces, (("a", "b"), ("a", "c"), ("c", "a")), ("a",), ("b",))
        desk = Desk(plan, (((8, 0), (3, 1)), ((8, 0),)), (1, 1), 8, 1, 0)
        blind = Foresight(desk, 0)
        self.assertIs(bool(blind), False)
        told = Foresight(desk, 1)
        self.assertIs(bool(told), True)
        self.assertEqual(told.play(("a", "c", "a", "c", "a", "b")), (
            (0, 5, 1), (0, 0, 1), (0, 5, 1), (0, 0, 1), (1, 0, 0), (0, 6, 0),
        ))
        self.assertEqual(told.threshold(("a", "b"), 0), -1)
        self.assertEqual(told.threshold(["a", "b"], 1), 0)

    def test_pieces_without_sends(self):
        plan = silent_plan(2, (("a", "a"), ("a", "b"), ("b", "a")), ("a",), ("a",))
        told = Foresight(Desk(plan, (), (1, 1), 5, 1, 0), 1)
        self.assertIs(bool(told), True)
        self.assertEqual(told.table, tuple((window, (5, 5)) for window in windows(plan, 1)))
        self.assertEqual(told.play(("a", "b", "a")), ((0, 0, 1),) * 3)

    def test_errors(self):
        desk = example_desk()
        wide = Desk(full_plan(), WORDINGS, (2, 1), 12, 3, 1)
        for many in BAD_FORESIGHTS:
            self.fails(BadForesight, (many,), Foresight, wide, many)
            self.fails(BadForesight, (many,), judge_thresholds, wide, many, None)
            self.fails(BadForesight, (many,), judge_director, wide, many, None)
        for many in (2, 3, 4):
            self.fails(TooMany, "window", Foresight, wide, many)
            self.fails(TooMany, "window", judge_thresholds, wide, many, None)
            self.fails(TooMany, "window", judge_director, wide, many, None)
        told = Foresight(desk, 1)
        for row in ((), None, "ab", ("a",) * 401):
            self.fails(BadRow, -1, told.play, row)
        self.fails(BadWay, 1, told.play, ("a", "a"))
        self.fails(BadWay, 2, told.play, ("a", "c"))


class AgainstAllTest(Case):
    def test_thresholds_ranks_and_picks(self):
        seen = {"kept": 0, "beaten": 0, "ranks": 0}
        for desk, many in small_desks(131, 100):
            told = Foresight(desk, many)
            slow = Slow(desk, many)
            self.assertEqual(told.table, tuple(
                (window, tuple(slow.threshold(window, coins) for coins in range(desk.most + 1))) for window in slow.windows
            ))
            firsts = first_windows(desk.plan, many)
            kept = all((window, 0, desk.most) not in slow.ranks for window in firsts)
            self.assertIs(bool(told), kept)
            seen["kept" if kept else "beaten"] += 1
            for state in slow.moves:
                self.assertEqual(told.rank(*state), slow.ranks.get(state))
                self.assertEqual(told.pick(*state), slow.pick(state))
            seen["ranks"] = max(seen["ranks"], max(slow.ranks.values(), default=0))
            for window, row in told.table:
                self.assertEqual([told.threshold(window, coins) for coins in range(desk.most + 1)], list(row))
            self.check_director(desk, many, told, slow, firsts)
        self.assertGreater(min(seen["kept"], seen["beaten"]), 20)
        self.assertGreater(seen["ranks"], 5)

    def check_director(self, desk, many, told, slow, firsts):
        """The director's table is that of a director who tries everything."""
        if told:
            self.assertIsNone(told.director)
            return
        ranks = [(slow.ranks[(window, 0, desk.most)], window) for window in firsts if (window, 0, desk.most) in slow.ranks]
        rows = [(min(ranks)[1], 0, desk.most)]
        for state in rows:
            for level, done in slow.moves[state]:
                window = slow.reply(state, done)
                self.assertEqual(told.reply(*state, level), window)
                if (window,) + done not in rows:
                    rows.append((window,) + done)
        self.assertEqual(told.director, tuple(state + (slow.ranks[state],) for state in rows))

    def test_plays(self):
        for desk, many in small_desks(133, 60):
            told = Foresight(desk, many)
            for version in list(versions(desk.plan, 6))[:30]:
                self.check_play(desk, told, version, many)
        version = ("a", "c") * 199 + ("a", "b")
        told = Foresight(example_desk(room=14), 2)
        self.assertEqual(len(told.play(version)), 400)
        self.check_play(told.desk, told, version, 2)

    def check_play(self, desk, told, version, many):
        """A play takes the choice at each piece, and is beaten where there is none."""
        lag, coins, rows = 0, desk.most, []
        for number in range(len(version)):
            window = version[number:number + many + 1]
            level = told.pick(window, lag, coins)
            if level is None:
                self.fails(Beaten, number, told.play, version)
                return
            lag, coins = desk.done(window[0], level, lag, coins)
            rows.append((level, lag, coins))
        self.assertEqual(told.play(version), tuple(rows))


class JudgeThresholdsTest(Case):
    def setUp(self):
        self.desk = example_desk(room=13, most=2, income=1)
        self.table = Foresight(self.desk, 1).table

    def judged(self, table):
        return judge_thresholds(self.desk, 1, table)

    def test_the_table_told(self):
        self.assertIsNone(self.judged(self.table))
        self.assertIsNone(self.judged([[list(window), list(told)] for window, told in self.table]))
        self.assertIsNone(self.judged(self.table[::-1]))
        self.assertIsNone(self.judged(self.table * 2))

    def test_each_number_greater_and_less(self):
        kept = 0
        for number, (window, told) in enumerate(self.table):
            for coins in range(3):
                greater = told[:coins] + (told[coins] + 1,) + told[coins + 1:]
                table = self.table[:number] + ((window, greater),) + self.table[number + 1:]
                # One point beyond those of the room, and the row has not the form.
                self.assertEqual(self.judged(table), number if told[coins] < self.desk.full_points else -1)
                less = told[:coins] + (told[coins] - 1,) + told[coins + 1:]
                table = self.table[:number] + ((window, less),) + self.table[number + 1:]
                self.assertEqual(self.judged(table), slowly_judged(self.desk, 1, table))
                kept += self.judged(table) is None
        self.assertGreater(kept, 0)

    def test_rows_left_out_and_without_the_form(self):
        for number in range(len(self.table)):
            self.assertEqual(self.judged(self.table[:number] + self.table[number + 1:]), -1)
        for table in ((), None, 5, "abc", {}, True):
            self.assertEqual(self.judged(table), -1)
        window, told = self.table[0]
        full = self.desk.full_points
        for row in (
            None, 5, "ab", (), (window,), (window, told, told), (("a",), told), (("a", "a"), told), ("ab", told),
            (None, told), ((["a"], "b"), told), ((None, "b"), told), (("b", "a"), told), (("a", "b", "b"), told),
            (window, told[:2]), (window, told + (0,)), (window, None), (window, 0), (window, "000"), (window, (True, 0, 0)),
            (window, (0, 0, False)), (window, (full + 1, 0, 0)), (window, (0, 0, -2)), (window, (0, None, 0)),
            (window, (0, 0, 0.0)), {},
        ):
            self.assertEqual(self.judged(self.table + (row,)), len(self.table), row)
            self.assertEqual(self.judged((row,) + self.table), 0)
            self.assertEqual(self.judged((row,) + self.table[1:]), -1)

    def test_first_windows_with_minus_one(self):
        for number, (window, told) in enumerate(self.table):
            row = (window, told[:2] + (-1,))
            table = self.table[:number] + (row,) + self.table[number + 1:]
            judged = self.judged(table)
            self.assertEqual(judged, slowly_judged(self.desk, 1, table))
            self.assertEqual(judged == -1, window[0] == "a")
            self.assertIsNone(self.judged(self.table + ((window, (-1, -1, -1)),)))
        beaten = Desk.plain(example_plan(), (2, 1), 13)
        table = Foresight(beaten, 0).table
        self.assertEqual(judge_thresholds(beaten, 0, table), -1)

    def test_against_the_words(self):
        dice = random.Random(134)
        seen = set()
        for desk, many in small_desks(134, 80):
            table = Foresight(desk, many).table
            for _ in range(6):
                rows = [
                    (window, tuple(max(-1, lag + dice.choice((0, 0, 0, 0, 0, 1, -1))) for lag in told)) for window, told in table
                ]
                rows += [dice.choice(rows) for _ in range(dice.randint(0, 2))]
                rows = [row for row in rows if dice.random() < 0.99]
                dice.shuffle(rows)
                told = judge_thresholds(desk, many, tuple(rows))
                self.assertEqual(told, slowly_judged(desk, many, tuple(rows)))
                seen.add(told if told in (None, -1) else 0)
        self.assertEqual(seen, {None, -1, 0})


def slowly_judged(desk, many, table):
    """What judge_thresholds tells of rows of windows and integers, in the words of [25]."""
    full = desk.full_points
    formed = [row for row in table if all(-1 <= lag <= full for lag in row[1])]

    def told(window):
        return [row[1] for row in formed if row[0] == window][0]

    plan = desk.plan
    if not all(window in [row[0] for row in formed] for window in windows(plan, many)):
        return -1
    if any(told(window)[desk.most] == -1 for window in first_windows(plan, many)):
        return -1
    for number, row in enumerate(table):
        if row not in formed:
            return number
        for coins, lag in enumerate(row[1]):
            done = [desk.done(row[0][0], level, lag, coins) for level in range(desk.levels)] if lag != -1 else []
            behind = windows_behind(plan, many, row[0])
            keeps = [all(told(other)[end[1]] >= end[0] for other in behind) for end in done if end is not None]
            if lag != -1 and not any(keeps):
                return number
    return None


class JudgeDirectorTest(Case):
    def setUp(self):
        # A ring that gains, whatever is paid: the director needs several pieces.
        reel = Reel(20, ((0, 2, "ann", "four"),))
        pieces = (("a", 0, 2, 1, 1, "on"), ("b", 3, 5, 1, 1, "on"))
        plan = Plan(reel, pieces, (("a", "a"), ("a", "b"), ("b", "a")), ("a",), ("a",))
        self.desk = Desk(plan, (((4, 0), (3, 1)),), (1, 1), 8, 1, 0)
        self.told = Foresight(self.desk, 1)
        self.table = self.told.director

    def judged(self, table):
        return judge_director(self.desk, 1, table)

    def test_the_table_told(self):
        self.assertIsNone(self.judged(self.table))
        self.assertGreater(len(self.table), 4)
        self.assertIsNone(self.judged([[list(row[0])] + list(row[1:]) for row in self.table]))
        self.assertIsNone(self.judged(self.table[::-1]))
        self.assertIsNone(self.judged(self.table * 2))

    def test_ranks_greater_and_less(self):
        for number, row in enumerate(self.table):
            for step in (1, -1):
                changed = row[:3] + (row[3] + step,)
                table = self.table[:number] + (changed,) + self.table[number + 1:]
                self.assertEqual(self.judged(table), slowly_judged_director(self.desk, 1, table))
        # The first rank may be greater, the last one not less.
        self.assertIsNone(self.judged((self.table[0][:3] + (99,),) + self.table[1:]))
        self.assertEqual(self.judged((self.table[0][:3] + (self.table[0][3] - 1,),) + self.table[1:]), 0)

    def test_rows_left_out_and_without_the_form(self):
        self.assertEqual(self.judged(self.table[1:]), -1)
        for number in range(1, len(self.table)):
            rest = self.table[:number] + self.table[number + 1:]
            self.assertEqual(self.judged(rest), slowly_judged_director(self.desk, 1, rest))
            self.assertIsNotNone(self.judged(rest))
        for table in ((), None, 5, "abc", {}, True):
            self.assertEqual(self.judged(table), -1)
        window, lag, coins, rank = self.table[0]
        full = self.desk.full_points
        for row in (
            None, 5, "abcd", (), (window, lag, coins), (window, lag, coins, rank, 1), (("a", "c"), lag, coins, rank),
            (("a", "a", "a"), lag, coins, rank), ("aa", lag, coins, rank), (None, lag, coins, rank), (window, -1, coins, rank),
            (window, full + 1, coins, rank), (window, False, coins, rank), (window, lag, True, rank), (window, lag, 2, rank),
            (window, lag, -1, rank), (window, lag, coins, 0), (window, lag, coins, True), (window, lag, coins, None),
            (window, None, coins, rank), (window, lag, None, rank), ((["a"], "a"), lag, coins, rank), {},
        ):
            self.assertEqual(self.judged(self.table + (row,)), len(self.table), row)
            self.assertEqual(self.judged((row,) + self.table), 0)
            self.assertEqual(self.judged((row,) + self.table[1:]), -1)

    def test_the_first_of_several_rows_tells(self):
        # A row leads to the last one; a greater rank of that one, told first, does not do.
        greater = self.table[-1][:3] + (7,)
        self.assertIsNone(self.judged(self.table + (greater,)))
        told = self.judged((greater,) + self.table)
        self.assertEqual(told, slowly_judged_director(self.desk, 1, (greater,) + self.table))
        self.assertIsNotNone(told)

    def test_a_beginning(self):
        # A row of a first window, but with a lag, or with fewer coins, is none.
        window, _, _, rank = self.table[0]
        self.assertEqual(self.judged(((window, 1, 1, rank),) + self.table[1:]), -1)
        self.assertEqual(self.judged(((window, 0, 0, rank),) + self.table[1:]), -1)
        self.assertEqual(self.judged(((("b", "a"), 0, 1, rank),) + self.table[1:]), -1)

    def test_where_the_version_is_over(self):
        # Behind the last piece there is no window to which the director could lead.
        plan = example_plan()
        desk = Desk.plain(plan, (2, 1), 13)
        self.assertEqual(judge_director(desk, 0, ((("a",), 0, 0, 9), (("b",), 4, 0, 1))), 1)
        self.assertEqual(judge_director(desk, 1, ((("a", "b"), 0, 0, 9), (("b",), 4, 0, 8))), 1)

    def test_no_table_for_a_desk_that_keeps(self):
        kept = Desk.plain(example_plan(), (2, 1), 14)
        rows = [(("a",), 0, 0, 50)]
        for number in range(40):
            rows.append((("c",), 4, 0, 49 - number))
            rows.append((("a",), 4, 0, 48 - number))
            rows.append((("c",), 8, 0, 47 - number))
        self.assertIsNotNone(judge_director(kept, 0, tuple(rows)))

    def test_against_the_words(self):
        dice = random.Random(135)
        seen = set()
        for desk, many in small_desks(135, 80):
            table = Foresight(desk, many).director
            if table is None:
                continue
            for _ in range(6):
                rows = [row[:3] + (max(1, row[3] + dice.choice((0, 0, 0, 0, 0, 0, 1, -1))),) for row in table]
                rows += [dice.choice(rows) for _ in range(dice.randint(0, 2))]
                rows = [row for row in rows if dice.random() < 0.96]
                if dice.random() < 0.5:
                    dice.shuffle(rows)
                told = judge_director(desk, many, tuple(rows))
                self.assertEqual(told, slowly_judged_director(desk, many, tuple(rows)))
                seen.add(told if told in (None, -1) else 0)
        self.assertEqual(seen, {None, -1, 0})


def slowly_judged_director(desk, many, table):
    """What judge_director tells of rows that have the form but perhaps for their ranks, in the words of [26]."""
    formed = [row for row in table if row[3] >= 1]

    def lesser(state, rank):
        found = [row[3] for row in formed if row[:3] == state]
        return bool(found) and found[0] < rank

    starts = [(window, 0, desk.most) for window in first_windows(desk.plan, many)]
    if not [row for row in formed if row[:3] in starts]:
        return -1
    for number, row in enumerate(table):
        if row not in formed:
            return number
        for level in range(desk.levels):
            done = desk.done(row[0][0], level, row[1], row[2])
            behind = windows_behind(desk.plan, many, row[0])
            if done is not None and not any(lesser((other,) + done, row[3]) for other in behind):
                return number
    return None
