"""[1] to [3]: names, texts and reels."""

from seamfast.errors import BadCue, BadLength, TooMany
from seamfast.forms import fraction, is_fraction, is_integer
from seamfast.reels import Reel, is_name, is_text
from tests.samples import CUES, Case, example_reel

NO_STRINGS = (None, True, 0, 7, b"abc", ("a",), ["a"], {"a": 1}, object(), ())


class NamesTest(Case):
    def test_names(self):
        for name in ("a", "z", "ann", "abcdefgh", "zzzzzzzz"):
            self.assertIs(is_name(name), True)

    def test_no_names(self):
        for thing in NO_STRINGS + ("", "abcdefghi", "A", "a1", "a b", " a", "a-", "\xe4", "a\n", "x" * 2000):
            self.assertIs(is_name(thing), False)

    def test_texts(self):
        for text in ("a", "~", "!", "it is late", "A: 1 {}", "a" * 60, "a" * 29 + " " + "b" * 30):
            self.assertIs(is_text(text), True)

    def test_no_texts(self):
        bad = ("", " ", " a", "a ", "a  b", "50% off", "%", "a\nb", "a\tb", "\x7f", "\xe4", "a" * 61, "a" * 2000)
        for thing in NO_STRINGS + bad:
            self.assertIs(is_text(thing), False)


class FormsTest(Case):
    def test_integers(self):
        self.assertTrue(is_integer(0) and is_integer(-3) and is_integer(10 ** 40))
        for thing in (True, False, None, "1", 1.0, (1,)):
            self.assertFalse(is_integer(thing))

    def test_fractions(self):
        for pair in ((0, 1), (1, 1), (16, 9), [3, 2]):
            self.assertTrue(is_fraction(pair))
        for thing in ((0, 2), (2, 4), (1, 0), (-1, 2), (1, -2), (1,), (1, 2, 3), (True, 1), (1, True), "12", None, 3):
            self.assertFalse(is_fraction(thing))
        self.assertEqual(fraction(64, 36), (16, 9))
        self.assertEqual(fraction(0, 7), (0, 1))


class ReelTest(Case):
    def test_example(self):
        reel = example_reel()
        self.assertEqual((reel.length, reel.cues), (20, CUES))
        self.assertEqual(reel.speakers, ("ann", "bob"))
        self.assertEqual(len(reel), 3)
        self.assertEqual(list(reel), list(CUES))
        self.assertEqual(reel[2], CUES[2])
        self.assertEqual(Reel(1).cues, ())

    def test_lengths(self):
        for length in (1, 2000):
            self.assertEqual(Reel(length, ()).length, length)
        for length in (0, 2001, -1, True, "5", None, 1.0, (3,), 10 ** 40):
            self.fails(BadLength, (length,), Reel, length, None)

    def test_length_is_kept_as_it_was_passed(self):
        passed = [20]
        self.assertIs(self.fails(BadLength, ([20],), Reel, passed).length, passed)

    def test_good_cues(self):
        self.assertEqual(len(Reel(8, ((0, 3, "a", "x"), (3, 5, "b", "y"), (6, 8, "a", "z")))), 3)

    def test_bad_cues(self):
        good = (0, 3, "a", "x")
        bad = (
            (2, 5, "b", "y"), (3, 3, "b", "y"), (5, 4, "b", "y"), (-1, 4, "b", "y"), (4, 9, "b", "y"),
            (True, 4, "b", "y"), (4, True, "b", "y"), ("4", 5, "b", "y"), (4, 5, "B", "y"), (4, 5, "b", ""),
            (4, 5, "b", "y "), (4, 5, "b", None), (4, 5, None, "y"), (4, 5, "b"), (4, 5, "b", "y", 1), "4 5 b y",
            None, 4, {}, "abcd",
        )
        for cue in bad:
            self.fails(BadCue, 1, Reel, 8, (good, cue))
            self.fails(BadCue, 1, Reel, 8, (good, cue, None))
        self.fails(BadCue, 0, Reel, 8, ((False, 3, "a", "x"),))
        self.fails(BadCue, 0, Reel, 8, ((0, True, "a", "x"),))
        self.fails(BadCue, 0, Reel, 8, ((-1, 3, "a", "x"), good))
        for thing in (None, 5, "cues", {}, CUES[0][2], True):
            self.fails(BadCue, -1, Reel, 20, thing)

    def test_many_cues(self):
        cues = [(k, k + 1, "a", "x") for k in range(42)]
        self.assertEqual(len(Reel(50, cues[:40])), 40)
        self.fails(TooMany, "cue", Reel, 50, cues[:41])
        self.fails(BadCue, 41, Reel, 50, cues[:41] + [(0, 1, "a", "x")])
        self.fails(BadCue, 40, Reel, 50, cues[:40] + [None])

    def test_lists_are_taken_as_tuples(self):
        cues = [[0, 4, "ann", "good evening"], (6, 12, "bob", "it is late"), [14, 20, "ann", "so we go"]]
        reel = Reel(20, cues)
        self.assertEqual(reel.cues, CUES)
        self.assertTrue(all(isinstance(cue, tuple) for cue in reel.cues))
        self.assertEqual(reel, example_reel())
        cues[0][1] = 5
        cues.pop()
        self.assertEqual(reel.cues, CUES)
        self.assertEqual(cues[0], [0, 5, "ann", "good evening"])

    def test_naming(self):
        texts = ("ann: yes", "ann : yes", "ann", "bob: yes", "ann:", "Ann: yes", "anna: yes")
        reel = Reel(20, [(k, k + 1, "ann", text) for k, text in enumerate(texts)])
        self.assertEqual(reel.naming, (0, 4))
        self.assertEqual(Reel(5).naming, ())
        self.assertEqual(Reel(5).speakers, ())

    def test_speakers_are_ascending(self):
        reel = Reel(9, [(k, k + 1, name, "x") for k, name in enumerate(("cy", "bob", "cy", "ann", "bob"))])
        self.assertEqual(reel.speakers, ("ann", "bob", "cy"))

    def test_no_such_cue(self):
        reel = example_reel()
        for number in (3, -1, True, False, None, "0", (0,), slice(0, 1), 10 ** 30, 0.0):
            self.fails(BadCue, (number,), lambda k: reel[k], number)
        self.fails(BadCue, 0, lambda k: Reel(5)[k], 0)

    def test_equal(self):
        reel = example_reel()
        self.assertIs(reel == Reel(20, list(CUES)), True)
        self.assertIs(reel == Reel(21, CUES), False)
        self.assertIs(reel == Reel(20, CUES[:2]), False)
        self.assertIs(Reel(1) == 1, False)
        for other in (None, 20, (20, CUES), "reel", object()):
            self.assertIs(reel == other, False)
            self.assertIs(reel != other, True)
