"""[32]: colours of speakers, and trees of cases."""

import random
from itertools import product

from seamfast.colours import Colours, judge_tree
from seamfast.errors import BadNumber, TooMany, Unknown
from seamfast.nearness import Nearness
from seamfast.plans import Plan
from seamfast.reels import Reel
from tests.samples import Case, example_plan
from tests.test_known import line_plan
from tests.test_nearness import BAD_WITHINS
from tests.test_windows import silent_plan


def graph_plan(speakers, pairs):
    """A plan in which, within 1, just these pairs of speakers are near, told by one letter each."""
    cues = [(2 * number, 2 * number + 1, letter, "x") for number, letter in enumerate(speakers)]
    cues += [(2 * len(speakers) + number, 2 * len(speakers) + 1 + number, letter, "x")
             for number, letter in enumerate("".join(pairs))]
    start = 2 * len(speakers)
    names = "abcdefghijkl"[:len(pairs) + 1]
    pieces = [(name, start + 2 * number, start + 2 * number + 2, 1, 1, "on") for number, name in enumerate(names[:-1])]
    pieces.append((names[-1], 1, 2, 1, 1, "on"))
    return Plan(Reel(start + 2 * len(pairs) + 2, cues), pieces, (), tuple(names), tuple(names))


def first_colouring(speakers, near, many):
    """The first colouring, of all that there are, with colours less than a number."""
    for colours in product(range(many), repeat=len(speakers)):
        given = dict(zip(speakers, colours))
        if all(given[one] != given[two] for one, two in near):
            return colours
    return None


def is_tree(speakers, near, many, tree, given):
    """Whether a thing is a tree of cases, in the words of [32]."""
    if not isinstance(tree, (tuple, list)) or len(tree) != 2 or not isinstance(tree[0], str):
        return False
    first, rest = tree
    if isinstance(rest, str):
        return (first, rest) in near and first in given and rest in given and given[first] == given[rest]
    if first not in speakers or first in given or not isinstance(rest, (tuple, list)) or len(rest) != many:
        return False
    return all(is_tree(speakers, near, many, branch, {**given, first: colour}) for colour, branch in enumerate(rest))


ALL_OF_FOUR = ("ab", "ac", "ad", "bc", "bd", "cd")
FIVE_RING = ("ab", "bc", "cd", "de", "ae")


class ColoursTest(Case):
    def test_example(self):
        told = Colours(example_plan(), 1)
        self.assertEqual((told.fewest, told.colours, told.tree), (2, (0, 1), ("ann", (("bob", (("ann", "bob"),)),))))
        self.assertEqual((told["ann"], told["bob"], len(told), tuple(told)), (0, 1, 2, (0, 1)))
        for name in ("cy", "", None, True, 0, ("ann",), ["ann"]):
            self.fails(Unknown, (name,), lambda: told[name])

    def test_no_speaker_and_one(self):
        told = Colours(silent_plan(1, (), ("a",), ("a",)), 1)
        self.assertEqual((told.fewest, told.colours, told.tree, len(told), list(told)), (0, (), None, 0, []))
        told = Colours(line_plan("rr"), 1)
        self.assertEqual((told.fewest, told.colours, told.tree), (1, (0,), ("r", ())))
        told = Colours(graph_plan("abc", ()), 1)
        self.assertEqual((told.fewest, told.colours, told.tree), (1, (0, 0, 0), ("a", ())))

    def test_the_first_colouring_of_several(self):
        told = Colours(graph_plan("abcde", FIVE_RING), 1)
        self.assertEqual((told.fewest, told.colours), (3, (0, 1, 0, 1, 2)))
        told = Colours(graph_plan("abcd", ("ac", "bd", "cd")), 1)
        self.assertEqual((told.fewest, told.colours), (2, (0, 1, 1, 0)))
        told = Colours(graph_plan("abcd", ALL_OF_FOUR), 1)
        self.assertEqual((told.fewest, told.colours), (4, (0, 1, 2, 3)))

    def test_trees(self):
        told = Colours(graph_plan("abc", ("ab", "ac", "bc")), 1)
        self.assertEqual(told.tree, ("a", (
            ("b", (("a", "b"), ("c", (("a", "c"), ("b", "c"))))),
            ("b", (("c", (("b", "c"), ("a", "c"))), ("a", "b"))),
        )))
        # Both a and b are near c and may be alike: of both the least name is told.
        told = Colours(graph_plan("abcd", ("ac", "bc", "ad", "cd")), 1)
        self.assertEqual(told.fewest, 3)
        self.assertEqual(told.tree[1][0][1][0], ("c", (("a", "c"), ("d", (("a", "d"), ("c", "d"))))))
        self.assertEqual(told.tree[1][0][1][1], ("c", (("a", "c"), ("b", "c"))))

    def test_as_many_speakers_as_are_let(self):
        # All speakers of a ring of seven texts are near within 3.
        arrows = [(left, right) for left, right in zip("abcdefg", "bcdefga")]
        told = Colours(line_plan("tuvwxyz", arrows), 3)
        self.assertEqual((told.fewest, told.colours), (7, tuple(range(7))))
        self.assertIs(judge_tree(line_plan("tuvwxyz", arrows), 3, 6, told.tree), True)
        self.assertIs(judge_tree(line_plan("tuvwxyz", arrows), 3, 5, told.tree), False)
        self.assertEqual(Colours(line_plan("tuvwxyz", arrows), 1).fewest, 3)
        self.fails(TooMany, "speaker", Colours, line_plan("stuvwxyz"), 1)
        reel = Reel(20, [(number, number + 1, letter, "x") for number, letter in enumerate("stuvwxyz")])
        self.fails(TooMany, "speaker", Colours, Plan(reel, (("a", 0, 1, 1, 1, "on"),), (), ("a",), ("a",)), 1)

    def test_against_all_colourings(self):
        dice = random.Random(191)
        seen = set()
        for _ in range(150):
            speakers = "abcdefg"[:dice.randint(1, 6)]
            pairs = [one + two for one in speakers for two in speakers if one < two]
            chosen = dice.sample(pairs, dice.randint(0, min(11, len(pairs))))
            plan = graph_plan(speakers, chosen)
            near = tuple(Nearness(plan, 1))
            self.assertEqual(near, tuple(sorted((one, two) for one, two in chosen)))
            told = Colours(plan, 1)
            found = [first_colouring(speakers, near, many) for many in range(len(speakers) + 1)]
            fewest = [many for many, colours in enumerate(found) if colours is not None][0]
            self.assertEqual((told.fewest, told.colours), (fewest, found[fewest]))
            self.assertEqual([told[speaker] for speaker in speakers], list(told))
            self.assertIs(is_tree(speakers, near, fewest - 1, told.tree, {}), True)
            self.assertIs(judge_tree(plan, 1, fewest - 1, told.tree), True)
            self.check_order(speakers, told.tree)
            seen.add(fewest)
        self.assertLessEqual({1, 2, 3, 4}, seen)

    def check_order(self, speakers, tree):
        """The tree takes the speakers in their order."""
        if not isinstance(tree[1], str):
            self.assertEqual(tree[0], speakers[0])
            for branch in tree[1]:
                if not isinstance(branch[1], str):
                    self.check_order(speakers[1:], branch)

    def test_errors(self):
        for within in BAD_WITHINS:
            self.fails(BadNumber, "within", Colours, line_plan("stuvwxyz"), within)
            self.fails(BadNumber, "within", judge_tree, example_plan(), within, -1, None)
        for many in (-1, 8, True, False, None, "1", (1,), 10 ** 39):
            self.fails(BadNumber, "many", judge_tree, example_plan(), 1, many, None)


class JudgeTest(Case):
    PLAN = graph_plan("abc", ("ab", "ac", "bc"))
    LEFT = ("b", (("a", "b"), ("c", (("a", "c"), ("b", "c")))))
    RIGHT = ("b", (("c", (("b", "c"), ("a", "c"))), ("a", "b")))

    def judged(self, tree, many=2):
        told = judge_tree(self.PLAN, 1, many, tree)
        near = tuple(Nearness(self.PLAN, 1))
        self.assertIs(told, is_tree("abc", near, many, tree, {}))
        return told

    def test_the_tree_told(self):
        tree = ("a", (self.LEFT, self.RIGHT))
        self.assertIs(self.judged(tree), True)
        self.assertIs(self.judged(["a", [list(self.LEFT), ["b", [["c", [["b", "c"], ["a", "c"]]], ["a", "b"]]]]]), True)
        for many in (0, 1, 3, 4, 5, 6, 7):
            self.assertIs(self.judged(tree, many), False)

    def test_speakers_in_another_order(self):
        tree = ("b", (
            ("c", (("b", "c"), ("a", (("a", "b"), ("a", "c"))))), ("a", (("c", (("a", "c"), ("b", "c"))), ("a", "b"))),
        ))
        self.assertIs(self.judged(tree), True)

    def test_branches(self):
        left, right = self.LEFT, self.RIGHT
        for tree in (
            ("a", (left,)), ("a", (left, right, right)), ("a", (left, left)), ("a", (right, left)), ("a", ()), ("a", (left, None)),
            ("a", (left, ("a", "b"))), ("a", (left, ("b", (("c", (("c", "b"), ("a", "c"))), ("a", "b"))))),
            ("a", (left, ("b", (("c", (("b", "c"), ("a", "c"))), ("b", "a"))))), ("a", (left, ("a", right[1]))),
            ("a", (left, ("b", (("b", (("b", "c"), ("a", "c"))), ("a", "b"))))),
            ("a", (left, ("b", (("c", (("a", "c"), ("b", "c"))), ("a", "b"))))), ("a", (left, ("d", right[1]))),
            ("d", (left, right)), ("a", (left, ("b", (("c", (("b", "b"), ("a", "c"))), ("a", "b"))))),
            ("a", (left, ("b", (("c", (("b", "d"), ("a", "c"))), ("a", "b"))))),
        ):
            self.assertIs(self.judged(tree), False, tree)

    def test_branches_that_end_later(self):
        # A branch may go on though it could end; here a third speaker is given a colour in vain.
        late = ("c", (("a", "b"), ("a", "b")))
        self.assertIs(self.judged(("a", (("b", (late, self.LEFT[1][1])), self.RIGHT))), True)

    def test_no_colours(self):
        for tree, told in ((("a", ()), True), (("c", []), True), (("d", ()), False), (("a", "b"), False), ((), False)):
            self.assertIs(self.judged(tree, 0), told)

    def test_other_forms(self):
        for tree in (
            None, 5, "ab", "", True, (), ("a",), ("a", "b", "c"), ("a", None), ("a", 5), ("a", {}), {"a": 1, "b": 2}, (None, ()),
            (["a"], ()), (5, "a"), ("a", ("b", "c")), ("a", (("a", "b"), ("a", "b"))), (("a",), (self.LEFT, self.RIGHT)),
        ):
            self.assertIs(self.judged(tree), False)
            self.assertIs(judge_tree(self.PLAN, 1, 2, ("a", (self.LEFT, tree))), False)

    def test_pairs_who_are_not_near(self):
        plan = graph_plan("abc", ("ab", "bc"))
        tree = ("a", (("b", (("a", "b"), ("c", (("a", "c"), ("b", "c"))))), self.RIGHT))
        self.assertIs(judge_tree(plan, 1, 2, tree), False)
        self.assertIs(judge_tree(plan, 1, 1, ("a", (("b", (("a", "b"),)),))), True)

    def test_deep_trees_and_many_speakers(self):
        letters = "abcdefghijklmnopqrstuvwxyz"
        speakers = [letters[number % 26] + letters[number // 26] for number in range(38)]
        cues = [(number, number + 1, name, "x") for number, name in enumerate(speakers)]
        plan = Plan(Reel(40, cues), (("a", 0, 38, 1, 1, "on"),), (), ("a",), ("a",))
        tree = tuple(sorted((speakers[36], speakers[37])))
        for name in speakers[::-1]:
            tree = (name, (tree,))
        self.assertIs(judge_tree(plan, 1, 1, tree), True)
        self.assertIs(judge_tree(plan, 1, 2, tree), False)
        deep = ()
        for _ in range(39):
            deep = (deep, deep)
        self.assertIs(judge_tree(plan, 1, 2, deep), False)
