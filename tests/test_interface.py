"""The interface: its names, where they are defined, and their parameters."""

import ast
import importlib
import inspect
import unittest

from seamfast.allversions import AllVersions
from seamfast.books import Book
from seamfast.carries import Carries
from seamfast.colours import Colours
from seamfast.curve import Curve
from seamfast.desks import Desk
from seamfast.doubts import Doubts
from seamfast.drifts import Drift
from seamfast.foresight import Foresight
from seamfast.greatest import GreatestLag
from seamfast.house import House
from seamfast.known import Known
from seamfast.lengths import Lengths
from seamfast.mends import Mends
from seamfast.missed import NothingMissed
from seamfast.nearness import Nearness
from seamfast.recordings import Recording
from seamfast.recutpairs import RecutPair
from seamfast.recutrules import RecutRules
from seamfast.recuts import Recut
from seamfast.rolls import Roll
from seamfast.rules import Rules
from seamfast.thinned import Thinned
from seamfast.tightest import Tightest
from seamfast.wholly import Wholly
from seamfast.wishes import ClearWish, RoomWish, RulesWish
from seamfast.workroom import Workroom
from tests.samples import example_plan
from tests.test_language import TREES

# For each module, its functions and classes with their parameters, and for each class its methods with theirs; a
# property is told without brackets, and a slash stands before a static or class method.
INTERFACE = {
    "reels": {"is_name(thing)": (), "is_text(thing)": (), "Reel(length, cues=())": (
        "speakers", "naming", "__len__()", "__getitem__(at)", "__iter__()", "__eq__(other)")},
    "plans": {"Plan(reel, pieces, arrows, starts, ends)": (
        "grain", "names", "piece_of(name)", "factor_of(name)", "shown_of(name)", "followers(name)", "strip_of(name)",
        "sends_of(name)", "__contains__(x)", "__len__()", "__iter__()", "__eq__(other)")},
    "ways": {name: () for name in (
        "is_way(plan, row)", "is_version(plan, row)", "row_length(plan, row)", "row_sends(plan, row)", "ways(plan, most)",
        "versions(plan, most)")},
    "rolls": {"Roll(plan, written)": (
        "size", "extent", "showing_count", "send_count", "is_whole", "moment_at(moment)", "cue_at(moment)",
        "showing_at(number)", "written_out()", "__eq__(other)")},
    "rolltext": {"write_roll(written)": (), "read_roll(plan, text)": ()},
    "foldrow": {"fold_row(row)": ()},
    "wording": {"two_lines(text, width)": ()},
    "reeltext": {"write_reel(reel)": (), "read_reel(lines)": ()},
    "plantext": {"write_plan(plan)": (), "read_plan(reel, lines)": ()},
    "showings": {"showings(plan, row)": ()},
    "books": {"Book(least, close)": ("__eq__(other)",), "carried(plan, book, row)": ()},
    "rules": {"Rules(*, short=0, long=None, gap=0, again=0, pace=None)": ("__eq__(other)", "/loosest()"),
              "breaches(plan, book, rules, row)": ()},
    "thinned": {"Thinned(plan, book, rules, row, prices)": ("__len__()", "__iter__()"),
                "judge_bounds(plan, book, rules, row, prices, table)": ()},
    "standings": {name: () for name in (
        "horizon(plan, book, rules)", "standing_of(plan, book, rules, way)", "gone_on(plan, book, rules, standing, name)",
        "broken_at_end(plan, book, rules, standing)")},
    "allversions": {"AllVersions(plan, book, rules)": ("__bool__()", "__len__()", "__iter__()"),
                    "judge_standings(plan, book, rules, table)": ()},
    "spans": {"Spans(plan, book)": ("__getitem__(at)", "__len__()", "__iter__()", "shortest(cue)", "lacking(cue)")},
    "tightest": {"Tightest(plan, book)": ("bar(word)",)},
    "lags": {"lags(plan, row, pace)": ()},
    "missed": {"NothingMissed(plan, pace, room)": ("__bool__()", "__len__()", "__iter__()"),
               "judge_lags(plan, pace, room, table)": ()},
    "greatest": {"GreatestLag(plan, pace)": ("__bool__()",), "gains(plan, pace, ring)": (), "least_pace(plan)": ()},
    "curve": {"Curve(plan)": ("__call__(pace)", "pace_for(room)", "__len__()", "__iter__()", "__getitem__(at)")},
    "growth": {"growth(plan, pace, room)": (), "cue_room(plan, pace, room, cue)": ()},
    "desks": {"Desk(plan, wordings, pace, room, most, income)": (
        "levels", "full_points", "wording(cue, level)", "cost(name, level)", "done(name, level, lag, coins)", "__eq__(other)",
        "altered(*, new_room=None, new_most=None)", "/plain(plan, pace, room)")},
    "windows": {name: () for name in (
        "windows(plan, foresight)", "first_windows(plan, foresight)", "windows_behind(plan, foresight, window)",
        "windows_of(plan, foresight, version)")},
    "foresight": {"Foresight(desk, many)": (
        "__bool__()", "__len__()", "__iter__()", "threshold(window, coins)", "rank(window, lag, coins)", "pick(window, lag, coins)",
        "reply(window, lag, coins, level)", "play(version)"),
        "judge_thresholds(desk, many, table)": (), "judge_director(desk, many, table)": ()},
    "leasts": {"least_foresight(desk)": (), "least_purse(desk, many)": (), "least_room(desk, many)": ()},
    "wholly": {"Wholly(desk)": ("__bool__()", "__len__()", "__iter__()", "front(way)"), "judge_fronts(desk, table)": ()},
    "known": {"unclear(plan, named, memory, row)": (), "Known(plan, named, memory)": ("__bool__()", "__len__()", "__iter__()"),
              "judge_ages(plan, named, memory, table)": ()},
    "leastnamed": {"least_named(plan, memory)": (), "needed(plan, named, memory)": ()},
    "nearness": {"Nearness(plan, within)": ("__getitem__(at)", "__contains__(x)", "__len__()", "__iter__()")},
    "colours": {"Colours(plan, within)": ("__getitem__(at)", "__len__()", "__iter__()"),
                "judge_tree(plan, within, many, tree)": ()},
    "wishes": {name: ("__call__(plan)", "__add__(other)", "__eq__(other)") for name in (
        "RulesWish(book, rules)", "RoomWish(pace, room)", "ClearWish(memory)", "BothWish(first, second)")},
    "marks": {"plan_under(plan, marks, lot)": (), "lots(plan, marks)": (), "price_of(plan, marks, lot)": ()},
    "mends": {"Mends(plan, wish, marks)": ("__bool__()", "__len__()", "__iter__()", "__contains__(x)", "__getitem__(at)")},
    "workroom": {"Workroom(plan, wish)": (
        "present", "asked", "deed_count", "exchange(wish)", "answer()", "drop(cue)", "reword(cue, text)", "bar(first, second)",
        "undo()", "redo()", "copy()", "__eq__(other)"),
        "Trial(workroom)": ("__enter__()", "__exit__(kind, value, trace)"), "rehearsed(workroom, deeds)": ()},
    "recordings": {"Recording(plan, heard, least, most, *, tuned=False)": ("__contains__(x)", "__len__()", "__iter__()")},
    "doubts": {"Doubts(plan, slack)": ("__bool__()", "__len__()", "__iter__()"), "doubts_behind(plan, slack, doubt)": (),
               "judge_doubts(plan, slack, table)": ()},
    "unlike": {"least_unlike(plan, slack, delay)": ()},
    "lengths": {"Lengths(plan)": ("__len__()", "__iter__()", "__contains__(x)", "version_of(length)", "count_of(length)"),
                "judge_lengths(plan, lag, table)": ()},
    "drifts": {"Drift(plan, rates, meets=())": ("__bool__()", "__len__()", "__iter__()", "beyond(limit)", "drift_of(row)"),
               "judge_drifts(plan, rates, meets, table)": ()},
    "meets": {"fewest_meets(plan, rates, limit)": ()},
    "recuts": {"Recut(entries, tails)": ("__call__(row)", "__add__(other)", "__len__()", "__eq__(other)", "/same(names)")},
    "carries": {"Carries(recut, plan, other)": ("__bool__()", "__len__()", "__iter__()"),
                "judge_carries(recut, plan, other, table)": ()},
    "recutpairs": {"RecutPair(plan, first, second)": ("__bool__()", "__len__()", "__iter__()"),
                   "judge_pair(plan, first, second, table)": ()},
    "recutrules": {"RecutRules(recut, plan, other, book, rules)": ("__bool__()", "__len__()", "__iter__()"),
                   "judge_recut(recut, plan, other, book, rules, table)": ()},
    "house": {"House()": (
        "keep_reel(name, reel)", "keep_plan(name, of, plan)", "keep_roll(name, of, roll)", "strike(name)", "__getitem__(at)",
        "__contains__(x)", "__len__()", "__iter__()", "over(name)", "deed_count", "copy()", "__eq__(other)")},
    "journal": {"write_journal(house)": (), "read_journal(lines)": (), "taken_up(lines)": ()},
}
GENERATORS = {"ways", "versions", "lots"}


def parameters(action):
    """The parameters of a function as they are written in brackets."""
    return str(inspect.signature(action))


class InterfaceTest(unittest.TestCase):
    def test_defined_in_their_files(self):
        for stem, told in INTERFACE.items():
            defined = {node.name: node for node in TREES[stem].body if isinstance(node, (ast.FunctionDef, ast.ClassDef))}
            for name, methods in told.items():
                node = defined[name.partition("(")[0]]
                self.assertEqual(isinstance(node, ast.ClassDef), node.name[0].isupper())
                own = {part.name for part in node.body if isinstance(part, ast.FunctionDef)}
                for method in methods:
                    self.assertIn(method.partition("(")[0].strip("/"), own, (stem, name))

    def test_parameters(self):
        for stem, told in INTERFACE.items():
            module = importlib.import_module(f"seamfast.{stem}")
            for name, methods in told.items():
                word, _, rest = name.partition("(")
                thing = getattr(module, word)
                self.assertEqual(parameters(thing), "(" + rest, (stem, name))
                self.assertIs(inspect.isgeneratorfunction(thing), word in GENERATORS)
                for method in methods:
                    self.check_method(thing, method)

    def check_method(self, kind, method):
        word, bracket, rest = method.strip("/").partition("(")
        found = vars(kind)[word]
        if not bracket:
            self.assertIsInstance(found, property)
            self.assertEqual(found.fset is not None, word == "asked")
        elif method.startswith("/"):
            self.assertIsInstance(found, (staticmethod, classmethod))
            self.assertEqual(parameters(getattr(kind, word)), "(" + rest)
        else:
            told = parameters(found)
            self.assertEqual(told.replace("(self, ", "(").replace("(self)", "()"), "(" + rest, (kind, method))

    def test_all_of_the_package_is_small_enough(self):
        self.assertLessEqual(set(INTERFACE), set(TREES))


class AttributesTest(unittest.TestCase):
    def test_set_on_each_object(self):
        plan, book, rules = example_plan(), Book(1, 2), Rules(gap=2)
        desk = Desk.plain(plan, (2, 1), 20)
        same = Recut.same(plan.names)
        wish = RoomWish((3, 1), 11)
        for made, names in (
            (plan.reel, "length cues speakers naming"), (plan, "reel pieces arrows starts ends grain names WAYS"),
            (Roll(plan, ("a", "b")), "plan written size extent showing_count send_count is_whole"), (book, "least close"),
            (rules, "short long gap again pace"), (Thinned(plan, book, rules, ("a", "b"), (1, 1, 1)), "price choice bounds"),
            (AllVersions(plan, book, rules), "version breach table"), (AllVersions(plan, book, Rules(gap=3)), "version breach table"),
            (Tightest(plan, book), "short long gap again pace"), (NothingMissed(plan, (2, 1), 9), "way table"),
            (GreatestLag(plan, (1, 1)), "lag way ring"), (Curve(plan), "corners"),
            (desk, "plan wordings pace room most income levels full_points"), (Foresight(desk, 0), "desk many director table"),
            (Wholly(desk), "desk version table"), (Known(plan, (), 1), "way cue table"), (Nearness(plan, 1), "plan within"),
            (Colours(plan, 1), "fewest colours tree"), (RulesWish(book, rules), "book rules"), (wish, "pace room"),
            (ClearWish(None), "memory"), (wish + wish, "first second"), (Mends(plan, wish, (("drop", 0, 1),)), "lot price barred"),
            (Workroom(plan, wish), "present asked deed_count"),
            (Recording(plan, (("x", 1),), 0, 0), "plan heard least most tuned number explanations sure beginning"),
            (Doubts(plan, 0), "delay lead loop table"), (Lengths(plan), "unit lag period table"),
            (Drift(plan, ((1, 1),) * 3), "parts ring gain table"), (same, "entries tails"), (Carries(same, plan, plan), "version table"),
            (RecutPair(plan, same, same), "version table"), (RecutRules(same, plan, plan, book, rules), "version breach table"),
            (House(), "deed_count"),
        ):
            for name in names.split():
                self.assertTrue(hasattr(made, name), (made, name))

    def test_truth(self):
        plan, book = example_plan(), Book(1, 2)
        desk = Desk.plain(plan, (2, 1), 0)
        same = Recut.same(plan.names)
        other = Recut([(0, "a", 0, ())], ((0, ()),))
        for made in (
            AllVersions(plan, book, Rules(gap=3)), NothingMissed(plan, (2, 1), 0), GreatestLag(plan, (1, 1)), Foresight(desk, 0), Wholly(desk),
            Known(plan, (), 1), Mends(plan, RoomWish((1, 1), 0), (("drop", 0, 1),)), Drift(plan, ((1, 1), (1, 1), (1, 2))),
            Carries(other, plan, plan), RecutPair(plan, same, Recut(same.entries, ((0, ("a",)),))),
            RecutRules(same, plan, plan, book, Rules(gap=3)),
        ):
            self.assertIs(bool(made), False)
        for made in (AllVersions(plan, book, Rules()), Doubts(plan, 0), Drift(plan, ((1, 1), (1, 2), (1, 1))), Carries(same, plan, plan)):
            self.assertIs(bool(made), True)
