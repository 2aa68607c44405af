"""Over the whole program: what its parts tell of the same plan, held against one another."""

import random
from fractions import Fraction

from seamfast.allversions import AllVersions, judge_standings
from seamfast.books import Book, carried
from seamfast.carries import Carries, judge_carries
from seamfast.curve import Curve
from seamfast.desks import Desk
from seamfast.doubts import Doubts
from seamfast.drifts import Drift
from seamfast.errors import CaptionError, TooMany
from seamfast.foldrow import fold_row
from seamfast.foresight import Foresight
from seamfast.greatest import GreatestLag, least_pace
from seamfast.growth import growth
from seamfast.house import House
from seamfast.journal import read_journal, write_journal
from seamfast.known import Known, unclear
from seamfast.lags import lags
from seamfast.leastnamed import least_named
from seamfast.lengths import Lengths
from seamfast.marks import lots, plan_under
from seamfast.meets import fewest_meets
from seamfast.mends import Mends
from seamfast.missed import NothingMissed
from seamfast.nearness import Nearness
from seamfast.plans import Plan
from seamfast.plantext import read_plan, write_plan
from seamfast.recordings import Recording
from seamfast.recutpairs import RecutPair
from seamfast.recutrules import RecutRules
from seamfast.recuts import Recut
from seamfast.reels import Reel
from seamfast.reeltext import read_reel, write_reel
from seamfast.rolls import Roll
from seamfast.rolltext import read_roll, write_roll
from seamfast.rules import Rules, breaches
from seamfast.showings import showings
from seamfast.spans import Spans
from seamfast.standings import broken_at_end, standing_of
from seamfast.tightest import Tightest
from seamfast.unlike import least_unlike
from seamfast.ways import is_version, is_way, row_length, row_sends, versions, ways
from seamfast.wholly import Wholly
from seamfast.windows import first_windows, windows, windows_behind, windows_of
from seamfast.wishes import ClearWish, RoomWish, RulesWish
from seamfast.workroom import Workroom, rehearsed
from tests.samples import Case, example_plan, random_plans, rich_plans, turned
from tests.test_allversions import gentle_rules
from tests.test_drifts import random_rates
from tests.test_marks import marked_plans, random_marks
from tests.test_recordings import heard_plans, sent


def plans_of(seed, many):
    """Plans with few and with many cues."""
    return turned(random_plans(seed, many, 3) + rich_plans(seed + 1, many, 3))


def random_book(dice):
    """Some book."""
    return Book(dice.randint(0, 2), dice.randint(0, 3))


def attempted(action, *arguments):
    """What an action tells, None if there are too many things for it."""
    try:
        return action(*arguments)
    except TooMany:
        return None


class WaysTest(Case):
    def test_versions_rolls_and_lengths(self):
        for plan in plans_of(501, 60):
            lengths = attempted(Lengths, plan)
            told = list(ways(plan, 5))
            found = [way for way in told if way[-1] in plan.ends]
            self.assertEqual(list(versions(plan, 5)), found)
            for way in told:
                self.assertTrue(is_way(plan, way))
                roll = read_roll(plan, fold_row(way))
                self.assertEqual(roll.written_out(), way)
                self.assertEqual((roll.size, roll.extent), (len(way), row_length(plan, way)))
                self.assertEqual((roll.showing_count, roll.send_count), (len(showings(plan, way)), len(row_sends(plan, way))))
                self.assertEqual(roll.is_whole, is_version(plan, way))
                self.assertEqual(read_roll(plan, write_roll(roll.written)), roll)
                self.assertEqual([roll.showing_at(k) for k in range(roll.showing_count)], list(showings(plan, way)))
            for version in found:
                extent = row_length(plan, version)
                if lengths is not None and extent <= 400 * lengths.unit:
                    self.assertIn(extent, lengths)
                    least = lengths.version_of(extent)
                    self.assertLessEqual((len(least), least), (len(version), version))
                    self.assertEqual(row_length(plan, least), extent)
                    self.assertGreaterEqual(lengths.count_of(extent), [row_length(plan, one) for one in found].count(extent))

    def test_windows(self):
        for plan in plans_of(503, 40):
            for many in range(3):
                known = attempted(windows, plan, many)
                if known is None:
                    continue
                for version in versions(plan, 5):
                    row = windows_of(plan, many, version)
                    self.assertIn(row[0], first_windows(plan, many))
                    self.assertEqual([window[0] for window in row], list(version))
                    for one, other in zip(row, row[1:]):
                        self.assertIn(other, windows_behind(plan, many, one))


class BlocksTest(Case):
    def test_rules_asked_in_four_ways(self):
        dice = random.Random(505)
        seen = set()
        for plan in plans_of(505, 120):
            book, rules = random_book(dice), gentle_rules(dice)
            verdict = attempted(AllVersions, plan, book, rules)
            if verdict is None:
                continue
            same = Recut.same(plan.names)
            behind = RecutRules(same, plan, plan, book, rules)
            self.assertEqual((behind.version, behind.breach), (verdict.version, verdict.breach))
            self.assertEqual(RulesWish(book, rules)(plan), verdict.version)
            self.assertEqual(Workroom(plan, RulesWish(book, rules)).answer(), verdict.version)
            kept = [version for version in versions(plan, 5) if not breaches(plan, book, rules, version)]
            if verdict:
                self.assertEqual(behind.table, tuple((row[0], 0, row) for row in verdict.table))
                self.assertEqual(kept, list(versions(plan, 5)))
                for way in ways(plan, 5):
                    self.assertIn(standing_of(plan, book, rules, way), verdict.table)
            else:
                self.assertTrue(breaches(plan, book, rules, verdict.version))
                self.assertNotIn(verdict.version, kept)
                self.assertEqual(breaches(plan, book, rules, verdict.version)[0], verdict.breach)
            seen.add(bool(verdict))
        self.assertEqual(seen, {True, False})

    def test_tightest_rules_and_spans(self):
        dice = random.Random(507)
        for plan in plans_of(507, 50):
            book = random_book(dice)
            tightest, spans = attempted(Tightest, plan, book), attempted(Spans, plan, book)
            if tightest is None:
                continue
            for rules in (
                Rules(short=tightest.short), Rules(long=tightest.long), Rules(gap=tightest.gap), Rules(again=tightest.again),
                Rules(pace=tightest.pace if tightest.pace[0] else None),
            ):
                verdict = attempted(AllVersions, plan, book, rules)
                self.assertTrue(verdict is None or bool(verdict))
            told = [carried(plan, book, version) for version in versions(plan, 5)]
            for cue, (least, greatest, sure) in enumerate(spans):
                lengths = [over - on for row in told for one, on, over in row if one == cue]
                self.assertTrue(all(least <= length and (greatest is None or length <= greatest) for length in lengths))
                self.assertTrue(not sure or all(cue in [one for one, _, _ in row] for row in told))
                if least is not None:
                    row = carried(plan, book, spans.shortest(cue)) if len(spans.shortest(cue)) <= 400 else ()
                    self.assertTrue(not row or least in [over - on for one, on, over in row if one == cue])
                    self.assertLessEqual(Fraction(tightest.short * plan.grain), least)
                if not sure:
                    self.assertNotIn(cue, [one for one, _, _ in carried(plan, book, spans.lacking(cue))])

    def test_judged_by_those_who_did_not_write_it(self):
        plan = example_plan()
        book, rules = Book(1, 2), Rules(gap=2)
        table = RecutRules(Recut.same(plan.names), plan, plan, book, rules).table
        self.assertIsNone(judge_standings(plan, book, rules, [row[2] for row in table]))
        self.assertEqual(broken_at_end(plan, book, rules, table[1][2]), ())


class ReadersTest(Case):
    def test_a_pace_and_a_room_asked_in_many_ways(self):
        dice = random.Random(509)
        seen = set()
        for plan in plans_of(509, 100):
            pace, room = dice.choice(((1, 1), (3, 2), (2, 1), (4, 1), (7, 1))), dice.randint(0, 40)
            verdict = attempted(NothingMissed, plan, pace, room)
            if verdict is None:
                continue
            points = room * pace[1] * plan.grain
            told = GreatestLag(plan, pace)
            self.assertEqual(bool(verdict), bool(told) and told.lag <= points)
            self.assertEqual(RoomWish(pace, room)(plan), verdict.way)
            for way in ways(plan, 5):
                row = lags(plan, way, pace)[:-1]
                missed = any(lag > points for lag in row)
                self.assertFalse(missed and bool(verdict))
                if missed:
                    self.assertLessEqual((len(verdict.way), verdict.way), (len(way), way))
            if verdict.way is not None and len(verdict.way) <= 400:
                self.assertGreater(max(lags(plan, verdict.way, pace)[:-1]), points)
            # A desk that can only send the texts as they are keeps its promise just then.
            desk = Desk.plain(plan, pace, room)
            for many in (0, 1):
                foresight = attempted(Foresight, desk, many)
                self.assertTrue(foresight is None or bool(foresight) == bool(verdict))
            whole = attempted(Wholly, desk)
            self.assertTrue(whole is None or bool(whole) == bool(verdict))
            # The curve and the growth tell the same bounds.
            least = least_pace(plan)[0]
            if bool(told):
                self.assertGreaterEqual(Fraction(*pace), Fraction(*least))
                rooms = Fraction(*Curve(plan)(pace))
                self.assertEqual(rooms * pace[1] * plan.grain, told.lag)
                self.assertEqual(bool(verdict), rooms <= room)
            else:
                self.assertLess(Fraction(*pace), Fraction(*least))
            grown = growth(plan, pace, room)
            if grown is not None:
                self.assertEqual(bool(verdict), Fraction(*grown) >= 1)
            seen.add((bool(verdict), bool(told)))
        self.assertEqual(len(seen), 3)

    def test_named_cues(self):
        dice = random.Random(511)
        for plan in plans_of(511, 80):
            memory = dice.choice((None, 1, 2, 5))
            named = attempted(least_named, plan, memory)
            if named is None:
                continue
            verdict = Known(plan, named, memory)
            self.assertTrue(verdict)
            for way in ways(plan, 5):
                self.assertEqual(unclear(plan, named, memory, way), ())
            # Where their texts name them, the wish asks just for this.
            cues = [
                cue[:3] + ((f"{cue[2]}: {cue[3]}" if number in named else cue[3])[:60].strip(),)
                for number, cue in enumerate(plan.reel)
            ]
            other = Plan(Reel(plan.reel.length, cues), plan.pieces, plan.arrows, plan.starts, plan.ends)
            self.assertEqual(other.reel.naming, named)
            self.assertIsNone(ClearWish(memory)(other))
            for number in range(len(named)):
                fewer = named[:number] + named[number + 1:]
                self.assertFalse(Known(plan, fewer, memory))

    def test_near_speakers(self):
        for plan in plans_of(513, 50):
            near = Nearness(plan, 2)
            for first, second in near:
                way = near[second, first]
                speakers = [plan.reel[cue][2] for cue, _ in row_sends(plan, way)]
                pairs = list(zip(speakers, speakers[1:])) + list(zip(speakers, speakers[2:]))
                self.assertTrue((first, second) in pairs or (second, first) in pairs)


class WatchersTest(Case):
    def test_a_way_explains_what_it_sends(self):
        dice = random.Random(515)
        for plan in heard_plans(515, 150):
            way = dice.choice(list(ways(plan, 4)))
            texts = sent(plan, way)
            if not texts or len(texts) > 24 or texts[-1][2][0] != way[-1]:
                continue
            heard = [(text, 50 + moment + 7) for text, moment, _ in texts]
            recording = attempted(Recording, plan, heard, 7, 7)
            if recording is not None:
                self.assertIn((0, way), recording)
                self.assertTrue(recording.beginning[0] <= 50 <= recording.beginning[1])
                for place, (_, _, known) in zip(recording.sure, texts):
                    self.assertIn(place, (None, known))

    def test_explanations_are_apart_no_longer_than_the_delay(self):
        dice = random.Random(517)
        many = 0
        for plan in heard_plans(517, 200):
            slack = dice.choice((0, 1, 3))
            verdict = attempted(Doubts, plan, slack)
            rows = [way for way in ways(plan, 4) if sent(plan, way)]
            if verdict is None or not verdict or not rows:
                continue
            texts = sent(plan, dice.choice(rows))[:12]
            moments = sorted(moment + dice.randint(0, slack) for _, moment, _ in texts)
            heard = [(text, moment) for (text, _, _), moment in zip(texts, moments)]
            recording = Recording(plan, heard, 0, slack, tuned=True)
            courses = [[place for _, _, place in sent(plan, row)[skipped:]][:len(heard)] for skipped, row in recording]
            for one in courses:
                for other in courses:
                    apart = "".join("x" if left != right else " " for left, right in zip(one, other))
                    self.assertLessEqual(max(len(run) for run in apart.split(" ")), verdict.delay)
                    many += one != other
            self.assertEqual(least_unlike(plan, slack, min(100, verdict.delay)) if len(plan.reel) <= 8 else (), ())
        self.assertGreater(many, 50)


class RoomsTest(Case):
    def test_drifts_against_plans_with_other_rates(self):
        dice = random.Random(519)
        for plan in plans_of(519, 80):
            rates = random_rates(dice, plan)
            pieces = [piece[:3] + rate + piece[5:] for piece, rate in zip(plan.pieces, rates)]
            other = Plan(plan.reel, pieces, plan.arrows, plan.starts, plan.ends)
            drift = Drift(plan, rates)
            for way in ways(plan, 5):
                apart = Fraction(row_length(other, way), other.grain) - Fraction(row_length(plan, way), plan.grain)
                self.assertEqual(apart * drift.parts, drift.drift_of(way))
            own = Drift(plan, [piece[3:5] for piece in plan.pieces])
            self.assertEqual(own.table, tuple((name, 0, 0) for name in plan.names))
            turned = Drift(other, [piece[3:5] for piece in plan.pieces])
            self.assertEqual((turned.ring, turned.gain), (drift.ring, None if drift.gain is None else -drift.gain))
            if drift:
                self.assertEqual(turned.table, tuple((name, -high, -low) for name, low, high in drift.table))
            meets = attempted(fewest_meets, plan, rates, 100)
            if meets is not None:
                self.assertIsNone(Drift(plan, rates, meets).beyond(100))


class ChangesTest(Case):
    def test_lots_and_deeds(self):
        dice = random.Random(521)
        seen = set()
        for plan in marked_plans(521, 60):
            marks = random_marks(dice, plan, 4)
            wish = RoomWish((dice.randint(1, 3), 1), dice.randint(5, 40)) + ClearWish(dice.choice((None, 3)))
            mends = Mends(plan, wish, marks)
            answers = dict(mends.barred)
            if mends:
                answers[mends.lot] = None
            for lot in lots(plan, marks):
                if lot not in answers:
                    continue
                # Arrows and texts first, then cues from the last one on, so that their numbers stay.
                deeds = sorted([marks[number][:-1] for number in lot], key=lambda deed: (deed[0] == "drop", -deed[1] if deed[0] == "drop" else 0))
                try:
                    told = rehearsed(Workroom(plan, wish), deeds)
                except TooMany:
                    continue
                room = Workroom(plan, wish)
                for deed in deeds:
                    {"drop": room.drop, "text": room.reword, "bar": room.bar}[deed[0]](*deed[1:])
                self.assertEqual(room.present, plan_under(plan, marks, lot))
                self.assertEqual(room.answer(), answers[lot])
                self.assertEqual(told[-1:], (answers[lot],) if lot else ())
                seen.add((len(lot) > 1, answers[lot] is None))
        self.assertEqual(len(seen), 4)

    def test_houses_keep_all(self):
        dice = random.Random(523)
        for plan in plans_of(523, 60):
            house = House()
            house.keep_reel("reel", plan.reel)
            house.keep_plan("plan", "reel", plan)
            rows = list(versions(plan, 5))[:3]
            for name, row in zip("abc", rows):
                house.keep_roll(name, "plan", Roll(plan, row))
            again = read_journal(write_journal(house))
            self.assertEqual(again, house)
            self.assertEqual((again["reel"], again["plan"]), (plan.reel, plan))
            self.assertEqual([again[name].written_out() for name in again if name in "abc"], rows)
            self.assertEqual(read_plan(read_reel(write_reel(plan.reel)), write_plan(plan)), again["plan"])
            # What is told of the plan that was read is what is told of the plan that was written.
            pace = (dice.randint(1, 4), 1)
            self.assertEqual(GreatestLag(again["plan"], pace).lag, GreatestLag(plan, pace).lag)


class RecutsTest(Case):
    def test_the_same_row(self):
        for plan in plans_of(525, 60):
            same = Recut.same(plan.names)
            for version in versions(plan, 4):
                self.assertEqual(same(version), version)
            verdict = Carries(same, plan, plan)
            self.assertTrue(verdict)
            self.assertEqual({row[0] for row in verdict}, set(plan.names))
            self.assertTrue(all(row == (row[0], 0, row[0]) for row in verdict))
            self.assertEqual(same + same, same)
            self.assertTrue(RecutPair(plan, same, same + same))

    def test_fewer_arrows_and_ends(self):
        for plan in plans_of(527, 60):
            same = Recut.same(plan.names)
            for arrow in plan.arrows:
                arrows = [other for other in plan.arrows if other != arrow]
                try:
                    less = Plan(plan.reel, plan.pieces, arrows, plan.starts, plan.ends)
                except CaptionError:
                    continue
                self.assertTrue(Carries(same, less, plan))
                verdict = Carries(same, plan, less)
                using = [version for version in versions(plan, 7) if arrow in zip(version, version[1:])]
                self.assertEqual([verdict.version], using[:1] if using else [verdict.version])
                self.assertIsNone(judge_carries(same, less, plan, Carries(same, less, plan).table))

    def test_new_names(self):
        for plan in plans_of(529, 40):
            names = dict(zip(plan.names, "pqrstuvw"))
            pieces = [(names[piece[0]],) + piece[1:] for piece in plan.pieces]
            arrows = [(names[left], names[right]) for left, right in plan.arrows]
            other = Plan(plan.reel, pieces, arrows, [names[name] for name in plan.starts], [names[name] for name in plan.ends])
            there = Recut([(0, name, 0, (names[name],)) for name in plan.names], ((0, ()),))
            back = Recut([(0, names[name], 0, (name,)) for name in plan.names], ((0, ()),))
            self.assertTrue(Carries(there, plan, other))
            self.assertTrue(Carries(back, other, plan))
            self.assertEqual(there + back, Recut.same(plan.names))
            self.assertTrue(RecutPair(plan, there + back, Recut.same(plan.names)))
            for book, rules in ((Book(1, 1), Rules(gap=2)), (Book(0, 0), Rules(short=2))):
                verdict = attempted(AllVersions, plan, book, rules)
                if verdict is not None:
                    self.assertEqual(RecutRules(there, plan, other, book, rules).version, verdict.version)
                    self.assertEqual(RecutRules(there + back, plan, plan, book, rules).breach, verdict.breach)
