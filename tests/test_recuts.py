"""[42]: re-cuts."""

import random

from seamfast.errors import BadEntry, BadTail, TooMany
from seamfast.recuts import Recut
from tests.samples import Case

ENTRIES = ((0, "a", 1, ("x",)), (0, "b", 0, ()), (1, "a", 1, ()), (1, "b", 0, ("y", "x")))
TAILS = ((0, ()), (1, ("z",)))


def slow_made(entries, tails, row):
    """What is made of a row, by looking for each entry; None if the re-cut is stuck."""
    state = 0
    made = ()
    for name in row:
        found = [entry for entry in entries if entry[:2] == (state, name)]
        if not found:
            return None
        state = found[0][2]
        made += tuple(found[0][3])
    found = [tail for tail in tails if tail[0] == state]
    return made + tuple(found[0][1]) if found else None


def random_recut(dice, names, others, states=3, share=0.9, most=3):
    """A re-cut from rows of some names to rows of others."""
    def out():
        return tuple(dice.choice(others) for _ in range(dice.choice((0, 1, 1, 1, 2, most))))

    entries = [
        (state, name, dice.randrange(states), out()) for state in range(states) for name in names if dice.random() < share
    ]
    dice.shuffle(entries)
    tails = [(state, out()) for state in range(states) if dice.random() < share]
    return Recut(entries, tails)


def slow_joined(first, second):
    """The entries and tails of two re-cuts one behind the other, in the words of [42]."""
    def through(state, names):
        out = ()
        for name in names:
            found = [entry for entry in second.entries if entry[0] == state and entry[1] == name]
            if not found:
                return None
            state, out = found[0][2], out + found[0][3]
        return state, out

    pairs = [(0, 0)]
    entries = []
    for number, (state, other) in enumerate(pairs):
        for ahead, name, behind, out in first.entries:
            if ahead == state and through(other, out) is not None:
                pair = (behind, through(other, out)[0])
                if pair not in pairs:
                    pairs.append(pair)
                entries.append((number, name, pairs.index(pair), through(other, out)[1]))
    tails = []
    for number, (state, other) in enumerate(pairs):
        for ahead, out in first.tails:
            led = through(other, out) if ahead == state else None
            for last, rest in second.tails:
                if led is not None and last == led[0]:
                    tails.append((number, led[1] + rest))
    return pairs, tuple(entries), tuple(tails)


class ArgumentsTest(Case):
    def test_entries(self):
        for entries in (None, 5, "ab", True, {}):
            self.fails(BadEntry, -1, Recut, entries, None)
        bad = (
            None, 5, "abcd", (), (0, "a", 1), (0, "a", 1, (), 1), (-1, "a", 1, ()), (36, "a", 1, ()), (0, "a", 36, ()),
            (0, "a", -1, ()), (True, "a", 1, ()), (0, "a", True, ()), (None, "a", 1, ()), (0, "", 1, ()), (0, "A", 1, ()),
            (0, "abcdefghi", 1, ()), (0, 5, 1, ()), (0, "a", 1, None), (0, "a", 1, "x"), (0, "a", 1, ("x",) * 13),
            (0, "a", 1, ("x", "")), (0, "a", 1, ("x", None)), (0, "a", 1, (("x",),)), ("0", "a", 1, ()), (0.0, "a", 1, ()),
            (0, ("a",), 1, ()), {}, (0, "b", 0, ()), [0, "b", 1, ["x"]],
        )
        for entry in bad:
            self.fails(BadEntry, 1, Recut, ((0, "b", 0, ()), entry), ())
            self.fails(BadEntry, 1, Recut, [[0, "b", 0, []], entry, None], None)
        for entry in ((35, "a", 35, ()), (0, "abcdefgh", 0, ("x",) * 12), [0, "a", 0, ["x", "abcdefgh"]]):
            self.assertEqual(Recut((entry,), ()).entries, (tuple(entry[:3]) + (tuple(entry[3]),),))

    def test_tails(self):
        for tails in (None, 5, "ab", True, {}):
            self.fails(BadTail, -1, Recut, ENTRIES, tails)
        bad = (
            None, 5, "ab", (), (1,), (1, (), 1), (-1, ()), (36, ()), (True, ()), (False, ()), (None, ()), (1, None), (1, "x"),
            (1, ("x",) * 13), (1, ("",)), (1, (5,)), (0, ("x",)), ("1", ()), (1.0, ()), {}, [0, []],
        )
        for tail in bad:
            self.fails(BadTail, 1, Recut, (), ((0, ()), tail))
            self.fails(BadTail, 1, Recut, ENTRIES, [[0, []], tail, None])
        for tail in ((35, ("x",) * 12), [0, ["abcdefgh"]]):
            self.assertEqual(Recut((), (tail,)).tails, ((tail[0], tuple(tail[1])),))

    def test_how_many_entries(self):
        names = ["abcdefgh"[:k + 1] for k in range(8)]
        entries = [(state, name, 0, ()) for state in range(25) for name in names]
        self.assertEqual(len(Recut(entries, ())), 200)
        more = entries + [(25, "a", 0, ())]
        self.fails(TooMany, "entry", Recut, more, ())
        # Behind all bad entries, ahead of bad tails.
        self.fails(TooMany, "entry", Recut, more, None)
        self.fails(BadEntry, 201, Recut, more + [more[0]], None)
        self.fails(BadEntry, -1, Recut, {}, None)


class RecutTest(Case):
    def test_made(self):
        recut = Recut(ENTRIES, TAILS)
        for row, made in (
            ((), ()), (("a",), ("x", "z")), (("b", "b"), ()), (("a", "a", "b"), ("x", "y", "x")), (("a", "b", "a"), ("x", "y", "x", "x", "z")),
            (("c",), None), (("a", "c", "a"), None), (["a"], ("x", "z")), ((), ()),
        ):
            self.assertEqual(recut(row), made)

    def test_stuck(self):
        recut = Recut(ENTRIES[:3], TAILS[:1])
        # Amid the row, at its end, and not at all.
        self.assertEqual([recut(row) for row in (("a", "b", "b"), ("b", "a"), ("b", "b"))], [None, None, ()])
        self.assertIsNone(Recut((), ())(()))
        self.assertEqual(Recut((), ((0, ("x", "y")),))(()), ("x", "y"))
        self.assertIsNone(Recut((), ((1, ("x", "y")),))(()))

    def test_long_rows(self):
        recut = Recut(((0, "a", 0, ("x",) * 12),), ((0, ("y",)),))
        self.assertEqual(recut(("a",) * 400), ("x",) * 4800 + ("y",))

    def test_attributes(self):
        recut = Recut([list(ENTRIES[0]), [1, "a", 2, ["x", "y"]]], [[1, ["z"]]])
        self.assertEqual((recut.entries, recut.tails), ((ENTRIES[0], (1, "a", 2, ("x", "y"))), ((1, ("z",)),)))
        self.assertEqual(len(recut), 2)
        self.assertEqual(len(Recut((), TAILS)), 0)

    def test_same(self):
        recut = Recut.same(("b", "a"))
        self.assertIsInstance(recut, Recut)
        self.assertEqual(recut.entries, ((0, "b", 0, ("b",)), (0, "a", 0, ("a",))))
        self.assertEqual(recut.tails, ((0, ()),))
        self.assertEqual(recut(("a", "b", "b")), ("a", "b", "b"))
        self.assertIsNone(recut(("c",)))
        self.assertEqual(Recut.same(["x"])(()), ())
        self.assertEqual(Recut.same(()).entries, ())

    def test_equal(self):
        recut = Recut(ENTRIES, TAILS)
        self.assertEqual(recut, Recut([list(entry) for entry in ENTRIES], [list(tail) for tail in TAILS]))
        self.assertNotEqual(recut, Recut(ENTRIES[::-1], TAILS))
        self.assertNotEqual(recut, Recut(ENTRIES, TAILS[::-1]))
        self.assertNotEqual(recut, Recut(ENTRIES[:3], TAILS))
        self.assertNotEqual(recut, Recut(ENTRIES, TAILS[:1]))
        for thing in (None, 5, "x", ENTRIES, (ENTRIES, TAILS)):
            self.assertIs(recut == thing, False)

    def test_what_was_passed_stays(self):
        entries, tails, row = [[0, "a", 0, ["x"]]], [[0, ["y"]]], ["a", "a"]
        recut = Recut(entries, tails)
        recut(row)
        recut + recut
        self.assertEqual((entries, tails, row), ([[0, "a", 0, ["x"]]], [[0, ["y"]]], ["a", "a"]))
        entries.append(None)
        entries[0][3].append("z")
        self.assertEqual(recut.entries, ((0, "a", 0, ("x",)),))

    def test_against_going_through(self):
        dice = random.Random(421)
        seen = set()
        for _ in range(300):
            recut = random_recut(dice, "abc", "xyz")
            row = tuple(dice.choice("abc") for _ in range(dice.randint(0, 6)))
            made = recut(row)
            self.assertEqual(made, slow_made(recut.entries, recut.tails, row))
            seen.add(made is None)
        self.assertEqual(seen, {True, False})


class BehindTest(Case):
    def test_in_their_order(self):
        first = Recut(((1, "a", 0, ("y",)), (0, "b", 1, ()), (0, "a", 2, ("x", "x")), (2, "a", 2, ("x",))), ((2, ("x",)), (0, ())))
        second = Recut(((0, "x", 1, ("p",)), (1, "x", 0, ()), (1, "y", 1, ("q",)), (0, "y", 3, ())), ((1, ("r", "s")), (0, ())))
        both = first + second
        # (0, 0), then (1, 0) by b, (2, 0) by a, (0, 3) from (1, 0), (2, 1) from (2, 0); from (0, 3) by b (1, 3).
        self.assertEqual(both.entries, (
            (0, "b", 1, ()), (0, "a", 2, ("p",)), (1, "a", 3, ()), (2, "a", 4, ("p",)), (3, "b", 5, ()), (4, "a", 2, ()),
        ))
        self.assertEqual(both.tails, ((0, ()), (2, ("p", "r", "s")), (4, ())))
        self.assertEqual(both(("a", "a", "a")), second(first(("a", "a", "a"))))

    def test_stuck_on_an_out(self):
        first = Recut(((0, "a", 0, ("x", "y")), (0, "b", 1, ("x",)), (1, "b", 2, ())), ((0, ("y",)), (1, ()), (2, ())))
        second = Recut(((0, "x", 1, ("p",)), (1, "x", 1, ())), ((1, ()),))
        both = first + second
        # The entry for a puts out y, on which the second one is stuck; so is it on the tail of 0.
        self.assertEqual((both.entries, both.tails), (((0, "b", 1, ("p",)), (1, "b", 2, ())), ((1, ()), (2, ()))))

    def test_states_that_are_never_reached(self):
        first = Recut(((5, "a", 0, ("x",)), (0, "a", 0, ("x",))), ((0, ()), (5, ())))
        both = first + Recut.same(("x",))
        self.assertEqual((both.entries, both.tails), (((0, "a", 0, ("x",)),), ((0, ()),)))

    def test_how_many_states(self):
        def counter(many):
            return Recut([(k, "a", (k + 1) % many, ("a",)) for k in range(many)], [(0, ())])

        self.assertEqual(len((counter(36) + counter(36)).entries), 36)
        self.assertEqual(len((counter(4) + counter(9)).entries), 36)
        self.assertEqual(len((counter(12) + counter(18)).entries), 36)
        self.fails(TooMany, "state", lambda: counter(5) + counter(8))
        # 37 states in a line, the last one without an entry.
        line = Recut([(k, "a", k + 1, ("a",)) for k in range(35)] + [(35, "a", 0, ("b",))], ())
        other = Recut([(0, "a", 0, ("a",)), (0, "b", 1, ())], ())
        self.fails(TooMany, "state", lambda: line + other)
        shorter = Recut([(k, "a", k + 1, ("a",)) for k in range(34)] + [(34, "a", 0, ("b",))], ())
        self.assertEqual(len((shorter + other).entries), 35)

    def test_how_many_names(self):
        wide = Recut(((0, "a", 0, ("b",) * 6),), ((0, ("b",) * 3),))
        double = Recut(((0, "b", 0, ("c", "c")),), ((0, ("d",) * 6),))
        both = wide + double
        self.assertEqual((both.entries, both.tails), (((0, "a", 0, ("c",) * 12),), ((0, ("c",) * 6 + ("d",) * 6),)))
        self.fails(TooMany, "name", lambda: wide + Recut(double.entries, ((0, ("d",) * 7),)))
        more = Recut(((0, "a", 0, ("b",) * 7),), ())
        self.fails(TooMany, "name", lambda: more + double)
        self.fails(TooMany, "name", lambda: Recut(((0, "a", 0, ("b",) * 7),), ((0, ("b",) * 3),)) + double)

    def test_how_many_entries(self):
        names = ["abcdefgh"[:k + 1] for k in range(8)] + ["x", "y"]
        first = Recut([(state, name, (state + 1) % 20, ("z",)) for state in range(20) for name in names], ())
        self.assertEqual(len(first), 200)
        self.assertEqual(len(first + Recut.same(("z",))), 200)
        second = Recut(((0, "z", 1, ()), (1, "z", 0, ())), ())
        self.assertEqual(len(first + second), 200)
        eleven = Recut([(state, name, (state + 1) % 17, ("z",)) for state in range(17) for name in names], ())
        # 17 and 2: 34 states with ten entries each.
        self.fails(TooMany, "entry", lambda: eleven + second)
        self.assertEqual(len(eleven + Recut.same(("z",))), 170)
        # So many names and one state, behind which a second one counts.
        many = ["a" * (k // 26) + "abcdefghijklmnopqrstuvwxyz"[k % 26] for k in range(67)]
        for names, size, error in ((many[:50], 4, False), (many, 3, True)):
            one = Recut([(0, name, 0, ("z",)) for name in names], ())
            counting = Recut([(k, "z", (k + 1) % size, ()) for k in range(size)], ())
            if error:
                self.fails(TooMany, "entry", lambda: one + counting)
            else:
                self.assertEqual(len(one + counting), 200)

    def test_the_order_of_the_errors(self):
        names = ["abcdefgh"[:k + 1] for k in range(8)] + ["x", "y"]
        first = Recut([(state, name, (state + 1) % 17, ("z",)) for state in range(17) for name in names], ((0, ("z",) * 12),))
        second = Recut(((0, "z", 1, ("p", "p")), (1, "z", 0, ())), ((0, ("q",)), (1, ())))
        # 340 entries, a tail of 13 names.
        self.fails(TooMany, "name", lambda: first + second)
        self.fails(TooMany, "entry", lambda: Recut(first.entries, ()) + second)
        third = Recut(((0, "z", 1, ("p",) * 12), (1, "z", 2, ("p",) * 12), (2, "z", 0, ())), ((0, ()),))
        # 51 states.
        self.fails(TooMany, "state", lambda: first + third)

    def test_against_one_after_the_other(self):
        dice = random.Random(423)
        seen = {}
        for number in range(600):
            share = dice.choice((0.6, 0.9, 1))
            most = dice.choice((2, 3, 4))
            first = random_recut(dice, "abc", "xyz", dice.randint(1, 8), share, most)
            second = random_recut(dice, "xyz", "pqr", dice.randint(1, 8), share, most)
            pairs, entries, tails = slow_joined(first, second)
            word = None
            if len(pairs) > 36:
                word = "state"
            elif any(len(row[-1]) > 12 for row in entries + tails):
                word = "name"
            elif len(entries) > 200:
                word = "entry"
            seen[word] = True
            if word is not None:
                self.fails(TooMany, word, lambda: first + second)
                continue
            both = first + second
            self.assertEqual((both.entries, both.tails), (entries, tails))
            for _ in range(6):
                row = tuple(dice.choice("abc") for _ in range(dice.randint(0, 5)))
                made = first(row)
                made = None if made is None else second(made)
                self.assertEqual(both(row), made)
                seen[made is None] = True
        self.assertLessEqual({None, "state", "name", True, False}, set(seen))

    def test_three_in_turn(self):
        dice = random.Random(424)
        for _ in range(100):
            one, two, three = random_recut(dice, "ab", "xy", 2), random_recut(dice, "xy", "pq", 2), Recut.same("pq")
            try:
                left, right = (one + two) + three, one + (two + three)
            except TooMany:
                continue
            self.assertEqual(left, right)
            self.assertEqual(left, one + two)
