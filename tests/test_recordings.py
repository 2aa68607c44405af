"""[36]: recordings and their explanations."""

import random

from seamfast.errors import BadDelay, BadHeard, Silent, TooMany
from seamfast.plans import Plan
from seamfast.recordings import Recording
from seamfast.reels import Reel
from seamfast.spells import joined, moved, shared
from tests.samples import Case, example_plan, random_plans, rich_plans, turned

BAD_DELAYS = (-1, 10001, True, False, None, "1", 1.0, (1,), 10 ** 39)


def is_silent_ring(plan, row):
    """Whether a row is a ring whose pieces send nothing."""
    return row[0] in plan.followers(row[-1]) and not any(plan.sends_of(name) for name in row)


def silent_piece(plan):
    """The first piece in a ring whose pieces send nothing, by going on from each piece; None if there is none."""
    for name in plan.names:
        rows = [(name,)]
        for _ in range(len(plan)):
            if any(is_silent_ring(plan, row) for row in rows):
                return name
            rows = [
                row + (other,) for row in rows for other in plan.followers(row[-1])
                if not plan.sends_of(row[-1]) and not plan.sends_of(other)
            ]
    return None


def heard_plans(seed, many, most=3):
    """Plans without silent rings, many texts of which are equal."""
    dice = random.Random(seed)
    found = []
    for plan in random_plans(seed, many, most) + rich_plans(seed + 1, many, most):
        texts = ("x", "yes") if dice.random() < 0.6 else ("x", "yes", "so we go", "no")
        cues = [cue[:3] + (dice.choice(texts),) for cue in plan.reel]
        plan = Plan(Reel(plan.reel.length, cues), plan.pieces, plan.arrows, plan.starts, plan.ends)
        if silent_piece(plan) is None and any(plan.sends_of(name) for name in plan.names):
            found.append(plan)
    return turned(found)


def sent(plan, row):
    """The texts of a row with their moments and places, in order."""
    told = []
    begun = 0
    for name in row:
        for number, (cue, moment) in enumerate(plan.sends_of(name)):
            told.append((plan.reel[cue][3], begun + moment, (name, number)))
        begun += plan.shown_of(name)
    return told


def fitting(plan, heard, least, most, skipped, row):
    """All beginnings with which an explanation fits, one by one."""
    texts = sent(plan, row)[skipped:]
    moment = heard[0][1]
    found = []
    for begun in range(moment - texts[0][1] - most, moment - texts[0][1] - least + 1):
        if all(least <= heard[k][1] - begun - texts[k][1] <= most for k in range(len(heard))):
            found.append(begun)
    return found


def all_rows(plan, heard, tuned):
    """All pairs of skipped sends and a row that can explain the texts, whatever their moments."""
    if tuned:
        rows = [(k, (name,)) for name in plan.names for k in range(len(plan.sends_of(name)))]
    else:
        rows = [(0, (name,)) for name in plan.starts]
    found = []
    while rows:
        longer = []
        for skipped, row in rows:
            texts = [text for text, _, _ in sent(plan, row)[skipped:]]
            many = min(len(texts), len(heard))
            if texts[:many] != [text for text, _ in heard[:many]]:
                continue
            if len(texts) >= len(heard):
                found.append((skipped, row))
            else:
                longer.extend((skipped, row + (name,)) for name in plan.followers(row[-1]))
        rows = longer
    return found


def slow_explanations(plan, heard, least, most, tuned):
    """All explanations that fit, in their order, each with its beginnings."""
    told = [
        ((skipped, row), fitting(plan, heard, least, most, skipped, row)) for skipped, row in all_rows(plan, heard, tuned)
    ]
    return sorted([one for one in told if one[1]], key=lambda one: (len(one[0][1]), one[0][1], one[0][0]))


def overheard(dice, plan, most, tuned):
    """What could be heard of some row, with some delays, and a bit changed at times."""
    row = [dice.choice(plan.names if tuned else plan.starts)]
    while len(row) < 5 and plan.followers(row[-1]):
        row.append(dice.choice(plan.followers(row[-1])))
    texts = sent(plan, row)
    if tuned and len(plan.sends_of(row[0])) > 1:
        texts = texts[dice.randrange(len(plan.sends_of(row[0]))):]
    texts = texts[:dice.randint(1, 6)]
    if not texts:
        return None
    moments = sorted(100 + moment + dice.randint(0, most) for _, moment, _ in texts)
    return tuple((text, moment) for (text, _, _), moment in zip(texts, moments))


class ArgumentsTest(Case):
    def test_heard(self):
        plan = example_plan()
        good = ("good evening", 5)
        for heard in ((), [], None, 5, "x", True, {}, (good,) * 25, (None,) * 25):
            self.fails(BadHeard, -1, Recording, plan, heard, 0, 0)
        bad = (
            None, 5, "ab", (), ("x",), ("x", 1, 1), ("", 9), (" x", 9), ("x%", 9), ("x" * 61, 9), (5, 9), (("x",), 9),
            ("x", -1), ("x", 10 ** 9 + 1), ("x", True), ("x", None), ("x", "9"), ("x", 9.0), ("x", 4), {},
        )
        for pair in bad:
            self.fails(BadHeard, 1, Recording, plan, (good, pair), 0, 0)
            self.fails(BadHeard, 1, Recording, plan, [good, pair, None], None, None, tuned=True)
        self.fails(BadHeard, 0, Recording, plan, (("x", -1),), 0, 0)
        self.fails(BadHeard, 2, Recording, plan, (("x", 5), ("x", 7), ("x", 6)), 0, 0)
        self.assertEqual(Recording(plan, (("x", 5), ("x", 5)), 0, 0).number, 0)
        for moment in (0, 10 ** 9):
            self.assertEqual(Recording(plan, [["good evening", moment]], 0, 0).beginning, (moment, moment))
        self.assertEqual(Recording(plan, (good,) * 24, 0, 0).number, 0)

    def test_delays(self):
        plan = example_plan()
        heard = (("good evening", 5),)
        for delay in BAD_DELAYS:
            self.fails(BadDelay, (delay,), Recording, plan, heard, delay, 10000)
            self.fails(BadDelay, (delay,), Recording, plan, heard, delay, None)
            self.fails(BadDelay, (delay,), Recording, plan, heard, 0, delay)
            self.fails(BadHeard, 1, Recording, plan, heard + (None,), delay, delay)
        self.fails(BadDelay, 4, Recording, plan, heard, 5, 4)
        self.fails(BadDelay, 0, Recording, plan, heard, 10000, 0)
        self.assertEqual(Recording(plan, heard, 10000, 10000).beginning, (-9995, -9995))
        self.assertEqual(Recording(plan, heard, 0, 10000).beginning, (-9995, 5))

    def test_attributes(self):
        plan = example_plan()
        recording = Recording(plan, [["good evening", 5]], 1, 2, tuned=True)
        self.assertIs(recording.plan, plan)
        self.assertEqual((recording.heard, recording.least, recording.most), ((("good evening", 5),), 1, 2))
        self.assertIs(recording.tuned, True)
        self.assertIs(Recording(plan, (("x", 5),), 1, 2).tuned, False)

    def test_silent(self):
        reel = Reel(9, ((0, 1, "ann", "x"),))
        pieces = [(name, k, k + 1, 1, 1, "on") for k, name in enumerate("edcba")]
        arrows = [("e", "d"), ("d", "c"), ("c", "b"), ("b", "c"), ("b", "a"), ("c", "e")]
        plan = Plan(reel, pieces, arrows, ("e",), ("a",))
        # The piece d leads to the ring of c and b, but does not stand in it; e stands in rings that send its text.
        self.fails(Silent, "c", Recording, plan, (("x", 5),), 0, 0)
        self.fails(BadDelay, 4, Recording, plan, (("x", 5),), 5, 4)
        self.fails(BadHeard, -1, Recording, plan, (), 0, 0)
        alone = Plan(reel, pieces, arrows[:2] + [("c", "b"), ("b", "a"), ("a", "a")], ("e",), ("a",))
        self.fails(Silent, "a", Recording, alone, (("x", 5),), 0, 0)
        without = Plan(reel, pieces, arrows[:3] + arrows[4:], ("e",), ("a",))
        self.assertEqual(Recording(without, (("x", 5),), 0, 0).explanations, ((0, ("e",)),))
        both = Plan(Reel(9), pieces, [("e", "d"), ("d", "e"), ("e", "c"), ("c", "c"), ("c", "b"), ("b", "a")], ("e",), ("a",))
        self.fails(Silent, "e", Recording, both, (("x", 5),), 0, 0)


    def test_silent_goes_ahead_of_too_many(self):
        reel = Reel(41, [(number, number + 1, "ann", "x") for number in range(40)])
        pieces = [(name, 0, 40, 1, 1, "on") for name in "abcdefghijk"] + [("l", 40, 41, 1, 1, "on")]
        names = tuple("abcdefghijkl")
        self.fails(TooMany, "explanation", Recording, Plan(reel, pieces, (), names, names), (("x", 0),), 0, 0, tuned=True)
        ring = Plan(reel, pieces, (("l", "l"),), names, names)
        self.fails(Silent, "l", Recording, ring, (("x", 0),), 0, 0, tuned=True)


class ExplanationsTest(Case):
    def test_example(self):
        plan = example_plan()
        recording = Recording(plan, (("good evening", 100), ("it is late", 115)), 0, 4)
        self.assertEqual(recording.explanations, ((0, ("a",)),))
        self.assertEqual((recording.number, len(recording), list(recording)), (1, 1, [(0, ("a",))]))
        self.assertEqual(recording.sure, (("a", 0), ("a", 1)))
        # It was heard 15 grains behind the first one, sent 12 behind it: the delays differ by 3.
        self.assertEqual(recording.beginning, (99, 100))

    def test_tuned_in(self):
        plan = example_plan()
        recording = Recording(plan, (("it is late", 100), ("good evening", 108)), 0, 1, tuned=True)
        self.assertEqual(recording.explanations, ((0, ("c", "a")),))
        recording = Recording(plan, (("it is late", 100),), 2, 5, tuned=True)
        self.assertEqual(recording.explanations, ((1, ("a",)), (0, ("c",))))
        self.assertEqual((recording.sure, recording.beginning), ((None,), (83, 90)))
        recording = Recording(plan, (("it is late", 100),), 2, 5)
        self.assertEqual((recording.explanations, recording.sure, recording.beginning), ((), (None,), None))
        recording = Recording(plan, (("it is late", 100), ("it is late", 116)), 0, 0, tuned=True)
        self.assertEqual((recording.explanations, recording.beginning), (((1, ("a", "c")),), (88, 88)))
        self.assertEqual(recording.sure, (("a", 1), ("c", 0)))

    def test_a_ring_several_times(self):
        plan = example_plan()
        heard = [("good evening", 0), ("it is late", 12), ("it is late", 28)]
        heard += [(text, moment + 36) for text, moment in heard] + [(text, moment + 72) for text, moment in heard]
        recording = Recording(plan, heard, 0, 0)
        self.assertEqual(recording.explanations, ((0, ("a", "c") * 3),))
        self.assertEqual(recording.beginning, (0, 0))
        self.assertEqual(recording.sure[6:], (("a", 0), ("a", 1), ("c", 0)))
        recording = Recording(plan, heard + [("good evening", 107)], 0, 0)
        self.assertEqual(recording.number, 0)
        recording = Recording(plan, heard + [("good evening", 107)], 0, 1)
        self.assertEqual((recording.explanations, recording.beginning), (((0, ("a", "c") * 3 + ("a",)),), (-1, -1)))

    def test_just_one_beginning_fits(self):
        plan = example_plan()
        heard = (("good evening", 100), ("it is late", 116))
        self.assertEqual(Recording(plan, heard, 3, 7).beginning, (93 + 4, 97))
        self.assertEqual(Recording(plan, heard, 3, 6).number, 0)
        self.assertIsNone(Recording(plan, heard, 3, 6).beginning)

    def test_the_beginning_is_that_of_the_row(self):
        reel = Reel(9, ((3, 4, "ann", "x"), (5, 6, "ann", "y")))
        pieces = (("a", 0, 2, 1, 1, "on"), ("b", 1, 9, 1, 1, "on"))
        plan = Plan(reel, pieces, (("a", "b"),), ("a", "b"), ("b",))
        recording = Recording(plan, (("x", 50),), 1, 3)
        self.assertEqual(recording.explanations, ((0, ("b",)), (0, ("a", "b"))))
        self.assertEqual((recording.beginning, recording.sure), ((43, 47), (("b", 0),)))
        recording = Recording(plan, (("y", 50),), 1, 3, tuned=True)
        # What was skipped lies between the beginning of the row and the first text heard.
        self.assertEqual((recording.explanations, recording.beginning), (((1, ("b",)),), (43, 45)))

    def test_in(self):
        recording = Recording(example_plan(), (("it is late", 100),), 2, 5, tuned=True)
        for thing in ((1, ("a",)), [1, ["a"]], (0, ["c"])):
            self.assertIs(thing in recording, True)
        others = (
            (0, ("a",)), (1, ("c",)), (1, ("a", "c")), (True, ("a",)), (False, ("c",)), (1, "a"), (1, ()), (1,), (1, ("a",), 0),
            None, 5, "ab", (), {}, (("a",), 1), (1, None), (0.0, ("c",)), (0, ("c", "a")), ((0, ("c",)),), (None, ("a",)),
        )
        for thing in others:
            self.assertIs(thing in recording, False)
        empty = Recording(example_plan(), (("it is late", 100),), 2, 5)
        self.assertIs((1, ("a",)) in empty, False)
        self.assertEqual(list(empty), [])

    def test_how_many(self):
        reel = Reel(4, ((0, 4, "ann", "x"),))

        def full(many):
            names = "abcdefghijklmnopqrst"[:many]
            arrows = [(left, right) for left in names for right in names]
            return Plan(reel, [(name, 0, 4, 1, 1, "on") for name in names], arrows, tuple(names), tuple(names))

        heard = [("x", 4 * number) for number in range(24)]
        self.assertEqual(Recording(full(2), heard[:8], 0, 0).number, 256)
        self.fails(TooMany, "explanation", Recording, full(2), heard[:9], 0, 0)
        self.fails(TooMany, "explanation", Recording, full(12), heard, 0, 10000, tuned=True)
        self.assertEqual(Recording(full(12), heard[:23] + [("x", 500)], 0, 0).number, 0)
        self.assertEqual(Recording(full(12), heard[:23] + [("y", 92)], 0, 10000).number, 0)

    def test_four_hundred_and_one_more(self):
        reel = Reel(40, [(number, number + 1, "ann", "x") for number in range(40)])
        for end, many in ((0, 400), (1, 401), (2, 402)):
            pieces = [(name, 0, 40, 1, 1, "on") for name in "abcdefghij"]
            names = tuple("abcdefghij")
            if end > 0:
                pieces.append(("k", 0, end, 1, 1, "on"))
                names += ("k",)
            plan = Plan(reel, pieces, (), names, names)
            heard = (("x", 7),)
            if many > 400:
                self.fails(TooMany, "explanation", Recording, plan, heard, 0, 0, tuned=True)
            else:
                recording = Recording(plan, heard, 0, 0, tuned=True)
                self.assertEqual((recording.number, recording.sure, recording.beginning), (400, (None,), (-32, 7)))
                self.assertEqual(recording.explanations[38:42], ((38, ("a",)), (39, ("a",)), (0, ("b",)), (1, ("b",))))
            self.assertEqual(Recording(plan, heard, 0, 0).number, len(names))
            self.assertEqual(Recording(plan, heard * 2, 0, 0, tuned=True).number, 0)

    def test_against_going_through_all_rows(self):
        dice = random.Random(361)
        seen = {}
        for plan in heard_plans(361, 700):
            for _ in range(3):
                tuned = dice.random() < 0.5
                spread = dice.choice((0, 0, 2, 8, 30))
                heard = overheard(dice, plan, spread, tuned)
                if heard is None:
                    continue
                least = dice.choice((0, 1, 5))
                most = least + spread
                if dice.random() < 0.2:
                    most = max(least, most - 1)
                told = slow_explanations(plan, heard, least, most, tuned)
                if len(told) > 400:
                    self.fails(TooMany, "explanation", Recording, plan, heard, least, most, tuned=tuned)
                    continue
                recording = Recording(plan, heard, least, most, tuned=tuned)
                self.assertEqual(recording.explanations, tuple(one for one, _ in told))
                self.assertEqual((recording.number, len(recording)), (len(told), len(told)))
                places = [[place for _, _, place in sent(plan, row)[skipped:]] for (skipped, row), _ in told]
                for number, place in enumerate(recording.sure):
                    found = {row[number] for row in places}
                    self.assertEqual(place, found.pop() if len(found) == 1 else None)
                self.assertEqual(len(recording.sure), len(heard))
                begun = [moment for _, moments in told for moment in moments]
                self.assertEqual(recording.beginning, (min(begun), max(begun)) if begun else None)
                for skipped, row in all_rows(plan, heard, tuned):
                    self.assertIs((skipped, row) in recording, (skipped, row) in recording.explanations)
                seen[min(3, len(told)), tuned, any(skipped for (skipped, _), _ in told)] = True
        self.assertEqual(len(seen), 4 + 4 + 3)

    def test_silent_rings_one_by_one(self):
        seen = set()
        for plan in random_plans(363, 300):
            name = silent_piece(plan)
            seen.add(name)
            if name is not None:
                self.fails(Silent, name, Recording, plan, (("x", 0),), 0, 0)
            else:
                self.assertEqual(Recording(plan, (("not a text here", 0),), 0, 0).number, 0)
        self.assertGreater(len(seen), 3)


class SpellsTest(Case):
    def test_against_sets(self):
        dice = random.Random(364)

        def some():
            pairs = []
            for _ in range(dice.randint(0, 4)):
                low = dice.randint(0, 20)
                pairs.append((low, low + dice.randint(0, 4)))
            return pairs

        def members(pairs):
            return {number for low, high in pairs for number in range(low, high + 1)}

        for _ in range(500):
            left, right = some(), some()
            one, other = joined(left), joined(right)
            self.assertEqual(members(one), members(left))
            for (_, high), (low, _) in zip(one, one[1:]):
                self.assertGreater(low, high + 1)
            self.assertEqual(members(shared(one, other)), members(left) & members(right))
            self.assertEqual(shared(one, other), joined(shared(one, other)))
            self.assertEqual(members(moved(one, -7)), {number - 7 for number in members(left)})
