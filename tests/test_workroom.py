"""[35]: workrooms, trials, rehearsed deeds."""

import random

from seamfast.books import Book
from seamfast.errors import BadArrow, BadCue, BadText, CaptionError, NoDeed, TooMany, Unreached
from seamfast.plans import Plan
from seamfast.reels import Reel
from seamfast.rules import Rules
from seamfast.wishes import ClearWish, RoomWish, RulesWish
from seamfast.workroom import Trial, Workroom, rehearsed
from tests.samples import Case, example_plan, random_plans, rich_plans
from tests.test_marks import ring_plan

TIGHT = RoomWish((3, 1), 11)


def many_cues():
    """A plan with 40 cues, all of which are sent."""
    cues = [(number, number + 1, "ann", "x") for number in range(40)]
    return Plan(Reel(40, cues), (("a", 0, 40, 1, 1, "on"),), (("a", "a"),), ("a",), ("a",))


class SlowRoom:
    """A workroom that tells all by doing the deeds that stand once more from the beginning."""

    def __init__(self, plan, wish):
        self.plan, self.wish = plan, wish
        self.done, self.undone = [], []

    def present(self):
        plan = self.plan
        for deed in self.done:
            cues, arrows = list(plan.reel.cues), list(plan.arrows)
            if deed[0] == "drop":
                del cues[deed[1]]
            elif deed[0] == "text":
                cues[deed[1]] = cues[deed[1]][:3] + (deed[2],)
            else:
                arrows.remove(deed[1:])
            plan = Plan(Reel(plan.reel.length, cues), plan.pieces, arrows, plan.starts, plan.ends)
        return plan

    def do(self, deed):
        """Does a deed, whose errors are judged by the other workroom."""
        if deed[0] == "undo":
            self.undone.append(self.done.pop())
        elif deed[0] == "redo":
            self.done.append(self.undone.pop())
        elif deed[0] == "wish":
            self.wish = deed[1]
        else:
            self.done.append(deed)
            self.undone = []


def do_deed(room, deed):
    """Does a deed in a workroom."""
    if deed[0] == "drop":
        return room.drop(deed[1])
    if deed[0] == "text":
        return room.reword(deed[1], deed[2])
    if deed[0] == "bar":
        return room.bar(deed[1], deed[2])
    if deed[0] == "undo":
        return room.undo()
    if deed[0] == "redo":
        return room.redo()
    room.exchange(deed[1])
    return room.present


def random_deed(dice, plan):
    """Some deed, good or bad."""
    kind = dice.choice(("drop", "text", "text", "bar", "undo", "undo", "redo", "redo", "wish"))
    if kind == "drop":
        return ("drop", dice.randint(0, len(plan.reel)))
    if kind == "text":
        return ("text", dice.randint(0, len(plan.reel)), dice.choice(("x", "so we go", "ann: what a day", "")))
    if kind == "bar":
        return ("bar",) + dice.choice(plan.arrows + (("a", "z"), ("a", "a")))
    if kind == "wish":
        return ("wish", RoomWish((dice.randint(1, 4), 1), dice.randint(5, 40)))
    return (kind,)


class DeedTest(Case):
    def test_example(self):
        plan = example_plan()
        room = Workroom(plan, TIGHT)
        self.assertIs(room.present, plan)
        self.assertIs(room.asked, TIGHT)
        self.assertEqual((room.deed_count, room.answer()), (0, ("a",)))
        told = room.reword(0, "good")
        self.assertEqual(told.reel[0], (0, 4, "ann", "good"))
        self.assertIs(room.present, told)
        self.assertEqual((room.deed_count, room.answer()), (1, None))
        told = room.drop(0)
        self.assertEqual([cue[3] for cue in told.reel], ["it is late", "so we go"])
        self.assertEqual(room.drop(1).reel.cues, plan.reel.cues[1:2])
        self.assertEqual(room.deed_count, 3)
        self.assertEqual(plan, example_plan())

    def test_numbers_are_those_of_the_present_plan(self):
        room = Workroom(example_plan(), TIGHT)
        room.drop(0)
        self.fails(BadCue, 2, room.drop, 2)
        self.fails(BadCue, 2, room.reword, 2, "x")
        self.assertEqual(room.reword(1, "x").reel.cues, ((6, 12, "bob", "it is late"), (14, 20, "ann", "x")))
        room.drop(1)
        room.drop(0)
        self.fails(BadCue, 0, room.drop, 0)
        self.assertEqual(len(room.present.reel), 0)
        room.undo()
        room.undo()
        self.assertEqual(room.present.reel[1], (14, 20, "ann", "x"))

    def test_bad_cues(self):
        room = Workroom(example_plan(), TIGHT)
        for cue in (-1, 3, True, False, None, "0", 1.0, (0,), 10 ** 39):
            self.fails(BadCue, (cue,), room.drop, cue)
            self.fails(BadCue, (cue,), room.reword, cue, "x")
            self.fails(BadCue, (cue,), room.reword, cue, "")
        for text in ("", " x", "x ", "x  x", "x%", "x" * 61, None, 5, ("x",), ["x"], "\n"):
            self.fails(BadText, -1, room.reword, 0, text)
        self.assertEqual(room, Workroom(example_plan(), TIGHT))
        self.assertEqual(room.reword(0, "x" * 60).reel[0][3], "x" * 60)

    def test_arrows(self):
        room = Workroom(ring_plan(), TIGHT)
        for pair in (("b", "a"), ("a", "a"), ("a", "d"), (None, "a"), (True, 5), ("a", ("b",))):
            self.fails(BadArrow, (pair,), room.bar, *pair)
        told = room.bar("b", "b")
        self.assertEqual(told.arrows, (("a", "b"), ("a", "c"), ("b", "c"), ("c", "b")))
        self.fails(BadArrow, (("b", "b"),), room.bar, "b", "b")
        room.bar("a", "c")
        # No end is come to from a any more; no way leads to c any more.
        self.fails(Unreached, "a", room.bar, "a", "b")
        self.fails(Unreached, "c", room.bar, "b", "c")
        self.assertEqual(room.deed_count, 2)
        room = Workroom(example_plan(), TIGHT)
        # Without the way to b neither piece can be part of a version, the first one is told.
        self.fails(Unreached, "a", room.bar, "a", "b")
        self.fails(Unreached, "c", room.bar, "a", "c")
        self.fails(Unreached, "c", room.bar, "c", "a")

    def test_answers_are_asked_anew(self):
        class Counting:
            count = 0

            def __call__(self, plan):
                self.count += 1
                return ("a",) * self.count

        wish = Counting()
        room = Workroom(example_plan(), wish)
        self.assertEqual([room.answer(), room.answer()], [("a",), ("a", "a")])
        room.drop(0)
        self.assertEqual((wish.count, room.answer()), (2, ("a",) * 3))
        self.fails(TooMany, "point", Workroom(example_plan(), RoomWish((1, 6), 2000)).answer)

    def test_the_wish_is_exchanged(self):
        room = Workroom(example_plan(), TIGHT)
        other = RoomWish((3, 1), 12)
        self.assertIsNone(room.exchange(other))
        self.assertIs(room.asked, other)
        self.assertIsNone(room.answer())
        room.asked = TIGHT
        self.assertIs(room.asked, TIGHT)
        self.assertEqual((room.answer(), room.deed_count), (("a",), 0))
        self.fails(NoDeed, "undo", room.undo)
        room.drop(0)
        room.undo()
        room.exchange(other)
        # That is no deed: nothing is forgotten.
        room.redo()
        self.assertEqual((len(room.present.reel), room.deed_count), (2, 1))
        room.undo()
        self.assertIs(room.asked, other)


class UndoTest(Case):
    def test_several_in_turn(self):
        plan = example_plan()
        room = Workroom(plan, TIGHT)
        self.fails(NoDeed, "undo", room.undo)
        self.fails(NoDeed, "redo", room.redo)
        plans = [plan, room.drop(2), room.reword(0, "x"), room.drop(1)]
        for number in (2, 1, 0):
            self.assertEqual(room.undo(), plans[number])
            self.assertEqual((room.present, room.deed_count), (plans[number], number))
        self.fails(NoDeed, "undo", room.undo)
        for number in (1, 2, 3):
            self.assertEqual(room.redo(), plans[number])
            self.assertEqual((room.present, room.deed_count), (plans[number], number))
        self.fails(NoDeed, "redo", room.redo)
        room.undo()
        room.undo()
        self.assertEqual(room.redo(), plans[2])

    def test_a_new_deed_forgets(self):
        room = Workroom(example_plan(), TIGHT)
        room.drop(0)
        room.drop(0)
        room.undo()
        room.reword(0, "x")
        self.fails(NoDeed, "redo", room.redo)
        self.assertEqual(room.deed_count, 2)
        room.undo()
        self.assertEqual(room.redo().reel[0][3], "x")

    def test_a_bad_deed_forgets_nothing(self):
        room = Workroom(ring_plan(), TIGHT)
        room.drop(0)
        room.bar("a", "c")
        room.drop(0)
        room.undo()
        for error, told, action in (
            (BadCue, 9, lambda: room.drop(9)), (BadText, -1, lambda: room.reword(0, "")), (BadCue, 2, lambda: room.reword(2, "")),
            (BadArrow, (("a", "c"),), lambda: room.bar("a", "c")), (Unreached, "a", lambda: room.bar("a", "b")),
        ):
            self.fails(error, told, action)
        self.assertEqual(len(room.redo().reel), 1)
        self.assertEqual(room.deed_count, 3)

    def test_sixty_deeds(self):
        room = Workroom(many_cues(), TIGHT)
        for number in range(59):
            room.reword(number % 40, "abcdefghij"[number % 10])
        self.assertEqual(room.deed_count, 59)
        self.fails(BadCue, 40, room.drop, 40)
        room.drop(0)
        self.assertEqual(room.deed_count, 60)
        for action in (
            lambda: room.drop(0), lambda: room.drop(40), lambda: room.reword(0, "x"), lambda: room.reword(0, ""),
            lambda: room.reword(-1, ""), lambda: room.bar("a", "a"), lambda: room.bar("a", "b"),
        ):
            self.fails(TooMany, "deed", action)
        self.fails(NoDeed, "redo", room.redo)
        room.exchange(ClearWish(None))
        room.undo()
        # One that is done again is no new deed; behind an undone one there is room for another.
        room.redo()
        self.assertEqual(room.deed_count, 60)
        room.undo()
        room.undo()
        self.fails(BadArrow, (("a", "b"),), room.bar, "a", "b")
        room.drop(3)
        room.drop(3)
        self.fails(TooMany, "deed", room.drop, 3)


class CopyTest(Case):
    def test_copies_go_their_own_way(self):
        room = Workroom(example_plan(), TIGHT)
        room.drop(0)
        room.drop(0)
        room.undo()
        other = room.copy()
        self.assertIsNot(other, room)
        self.assertEqual(other, room)
        other.redo()
        self.assertNotEqual(other, room)
        self.assertEqual((room.deed_count, other.deed_count), (1, 2))
        room.redo()
        self.assertEqual(other, room)
        other.exchange(ClearWish(None))
        self.assertIs(room.asked, TIGHT)
        self.assertNotEqual(other, room)

    def test_equal(self):
        def made(*deeds, wish=TIGHT):
            room = Workroom(example_plan(), wish)
            for deed in deeds:
                do_deed(room, deed)
            return room

        undo, redo = ("undo",), ("redo",)
        self.assertEqual(made(), made())
        self.assertEqual(made(wish=RoomWish((3, 1), 11)), made())
        self.assertNotEqual(made(wish=RoomWish((3, 1), 10)), made())
        self.assertEqual(made(("drop", 0), undo, redo), made(("drop", 0)))
        self.assertNotEqual(made(("drop", 0), undo), made())
        # Equal plans that were come to by other deeds.
        self.assertNotEqual(made(("drop", 0), ("drop", 0)), made(("drop", 1), ("drop", 0)))
        self.assertNotEqual(made(("text", 0, "good evening")), made())
        self.assertNotEqual(made(("text", 0, "x"), ("text", 0, "y")), made(("text", 0, "y")))
        # Other deeds that can be done again, or the same ones in another order.
        self.assertNotEqual(made(("drop", 0), undo), made(("drop", 1), undo))
        left = made(("text", 0, "x"), ("text", 1, "y"), undo, undo)
        right = made(("text", 1, "y"), ("text", 0, "x"), undo, undo)
        self.assertEqual(left.present, right.present)
        self.assertNotEqual(left, right)
        other = Workroom(ring_plan(), TIGHT)
        self.assertNotEqual(other, made())
        # Another plan in which the deeds make all the same.
        first = Plan(Reel(5, ((0, 1, "a", "x"),)), (("a", 0, 5, 1, 1, "on"),), (), ("a",), ("a",))
        second = Plan(Reel(5, ((0, 1, "a", "y"),)), (("a", 0, 5, 1, 1, "on"),), (), ("a",), ("a",))
        rooms = [Workroom(first, TIGHT), Workroom(second, TIGHT)]
        for room in rooms:
            room.drop(0)
        self.assertEqual(rooms[0].present, rooms[1].present)
        self.assertNotEqual(*rooms)

    def test_things_of_other_kinds(self):
        room = Workroom(example_plan(), TIGHT)
        for thing in (None, 5, "x", example_plan(), TIGHT, Trial(room)):
            self.assertIs(room == thing, False)


class TrialTest(Case):
    def busy_room(self):
        room = Workroom(example_plan(), TIGHT)
        room.drop(0)
        room.drop(0)
        room.undo()
        return room

    def test_the_block_changes_nothing(self):
        room = self.busy_room()
        before = room.copy()
        with Trial(room) as held:
            self.assertIs(held, room)
            room.redo()
            room.exchange(ClearWish(1))
            self.assertEqual((room.deed_count, len(room.present.reel)), (2, 1))
            room.undo()
            room.undo()
            # Undone beyond where the trial began.
            self.fails(NoDeed, "undo", room.undo)
            room.reword(2, "x")
            self.fails(NoDeed, "redo", room.redo)
        self.assertEqual(room, before)
        self.assertIs(room.asked, TIGHT)
        self.assertEqual(len(room.redo().reel), 1)

    def test_errors_come_out_of_the_block(self):
        room = self.busy_room()
        before = room.copy()

        def bad_block():
            with Trial(room):
                room.drop(0)
                room.drop(5)

        self.fails(BadCue, 5, bad_block)
        self.assertEqual(room, before)
        with self.assertRaises(ZeroDivisionError):
            with Trial(room):
                room.undo()
                raise ZeroDivisionError
        self.assertEqual(room, before)

    def test_a_block_that_is_left(self):
        room = self.busy_room()
        before = room.copy()

        def left_early():
            with Trial(room):
                room.drop(0)
                return room.deed_count

        self.assertEqual(left_early(), 2)
        for _ in range(3):
            with Trial(room):
                room.drop(0)
                continue
        self.assertEqual(room, before)

    def test_used_again_and_within_one_another(self):
        room = self.busy_room()
        before = room.copy()
        trial = Trial(room)
        for _ in range(2):
            with trial:
                room.drop(0)
            self.assertEqual(room, before)
        room.redo()
        after = room.copy()
        # Used again, it goes back to where this block began.
        with trial:
            room.undo()
            room.undo()
        self.assertEqual(room, after)
        other = Trial(room)
        with trial:
            room.undo()
            inner = room.copy()
            with other:
                room.undo()
                with trial:
                    room.exchange(ClearWish(None))
                    self.assertNotEqual(room, inner)
                self.assertEqual((room.deed_count, room.asked), (0, TIGHT))
            self.assertEqual(room, inner)
            with trial:
                with trial:
                    room.redo()
                    self.assertEqual(room, after)
                self.assertEqual(room, inner)
        self.assertEqual(room, after)
        with trial:
            room.undo()
        self.assertEqual(room, after)

    def test_two_workrooms_by_turns(self):
        room, other = self.busy_room(), self.busy_room()
        before = room.copy()
        with Trial(room):
            room.drop(1)
            with Trial(other):
                other.undo()
                room.drop(0)
            self.assertEqual((other.deed_count, room.deed_count), (1, 3))
            other.drop(0)
        self.assertEqual(room, before)
        self.assertEqual(other.deed_count, 2)

    def test_copies_made_in_a_block_stay(self):
        room = self.busy_room()
        with Trial(room):
            room.drop(0)
            kept = room.copy()
        self.assertEqual((kept.deed_count, room.deed_count), (2, 1))


class RehearsedTest(Case):
    def test_each_form(self):
        room = Workroom(example_plan(), TIGHT)
        room.drop(1)
        before = room.copy()
        told = rehearsed(room, (
            ("text", 0, "good"), ("undo",), ("redo",), ("wish", RoomWish((3, 1), 3)), ("drop", 0), ("drop", 0),
            ("trial", (("undo",), ("wish", TIGHT), ("trial", ()), ("trial", (("undo",),)))), ("undo",), ("undo",), ("undo",),
        ))
        self.assertEqual(told, (
            None, ("a",), None, ("a",), ("a", "b"), None, (("a", "b"), None, (), (None,)), ("a", "b"), ("a",), ("a",),
        ))
        self.assertEqual(room, before)

    def test_arrows(self):
        room = Workroom(ring_plan(), RoomWish((0, 1), 8))
        before = room.copy()
        told = rehearsed(room, [["bar", "b", "b"], ["bar", "c", "b"], ["bar", "a", "b"][:0] or ["undo"], ["trial", [["undo"]]]])
        self.assertEqual(told, (("a", "b"), ("a", "b"), ("a", "b"), (("a", "b"),)))
        self.assertEqual(room, before)

    def test_no_deeds(self):
        room = Workroom(example_plan(), TIGHT)
        self.assertEqual(rehearsed(room, ()), ())
        self.assertEqual(rehearsed(room, []), ())
        self.assertEqual(rehearsed(room, (("trial", ()),)), ((),))

    def test_errors_in_the_midst(self):
        room = Workroom(ring_plan(), TIGHT)
        room.drop(0)
        room.drop(0)
        room.undo()
        before = room.copy()
        bad = (
            (("drop", 2), BadCue, 2), (("text", 0, ""), BadText, -1), (("text", 2, ""), BadCue, 2),
            (("bar", "b", "a"), BadArrow, (("b", "a"),)), (("redo",), NoDeed, "redo"),
            (("wish", RoomWish((1, 6), 2000)), TooMany, "point"),
        )
        for deed, error, told in bad:
            self.fails(error, told, rehearsed, room, (("redo",), ("undo",), ("text", 0, "x"), deed, ("drop", 0)))
            self.fails(error, told, rehearsed, room, (("text", 0, "x"), ("trial", (("trial", (deed,)),))))
            self.assertEqual(room, before)
        self.fails(NoDeed, "undo", rehearsed, room, (("undo",), ("undo",)))
        self.assertEqual(room, before)

    def test_errors_of_the_wish(self):
        room = Workroom(example_plan(), TIGHT)
        before = room.copy()
        wish = RoomWish((1, 6), 834)
        self.fails(TooMany, "point", rehearsed, room, (("drop", 0), ("wish", wish)))
        self.fails(TooMany, "point", rehearsed, room, (("trial", (("wish", wish),)),))
        self.assertEqual(room, before)

    def test_eight_within_one_another(self):
        deeds = (("drop", 0),)
        told = (("a", "c", "a", "b"),)
        room = Workroom(example_plan(), RulesWish(Book(0, 0), Rules(short=3)))
        self.assertEqual(rehearsed(room, deeds), told)
        for _ in range(8):
            deeds = (("trial", deeds),)
            told = (told,)
        self.assertEqual(rehearsed(room, deeds), told)
        self.assertEqual(room.deed_count, 0)

    def test_too_many(self):
        room = Workroom(many_cues(), ClearWish(None))
        self.assertEqual(len(rehearsed(room, (("text", 0, "x"),) * 60)), 60)
        self.fails(TooMany, "deed", rehearsed, room, (("text", 0, "x"),) * 61)
        room.drop(0)
        self.fails(TooMany, "deed", rehearsed, room, (("text", 0, "x"),) * 60)
        self.assertEqual(room.deed_count, 1)

    def test_what_was_passed_stays(self):
        deeds = [["drop", 0], ["trial", [["undo"]]]]
        rehearsed(Workroom(example_plan(), TIGHT), deeds)
        self.assertEqual(deeds, [["drop", 0], ["trial", [["undo"]]]])


class ManyDeedsTest(Case):
    def test_against_doing_all_deeds_once_more(self):
        dice = random.Random(331)
        seen = {}
        for plan in random_plans(331, 40, 3) + rich_plans(332, 60, 3):
            room, slow = Workroom(plan, TIGHT), SlowRoom(plan, TIGHT)
            for _ in range(25):
                deed = random_deed(dice, room.present)
                before = room.copy()
                try:
                    told = do_deed(room, deed)
                except CaptionError as error:
                    seen[error.__class__.__name__] = True
                    self.assertEqual(room, before)
                    continue
                slow.do(deed)
                self.assertEqual(told, slow.present())
                self.assertEqual(room.present, slow.present())
                self.assertEqual((room.asked, room.deed_count), (slow.wish, len(slow.done)))
                self.assertEqual(room.answer(), slow.wish(slow.present()))
        self.assertEqual(set(seen), {"BadCue", "BadText", "BadArrow", "Unreached", "NoDeed"})

    def test_rehearsed_as_done(self):
        dice = random.Random(333)
        for plan in rich_plans(333, 60, 3):
            room = Workroom(plan, TIGHT)
            deeds = []
            told = []
            for _ in range(12):
                deed = random_deed(dice, room.present)
                try:
                    do_deed(room, deed)
                except CaptionError:
                    continue
                deeds.append(deed)
                told.append(room.answer())
            self.assertEqual(rehearsed(Workroom(plan, TIGHT), deeds), tuple(told))
            self.assertEqual(rehearsed(Workroom(plan, TIGHT), (("trial", deeds),)), (tuple(told),))
