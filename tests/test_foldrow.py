"""[9]: the folded text of a row."""

import itertools
import random

from seamfast.errors import BadRow, TooLong
from seamfast.foldrow import fold_row
from tests.samples import Case


def all_texts(row, known):
    """All texts of rolls that stand for a row."""
    if row in known:
        return known[row]
    texts = set()
    for size in range(1, len(row) + 1):
        first = set([row[0]]) if size == 1 else set()
        for part in range(1, size // 2 + 1):
            if size % part == 0 and row[:part] * (size // part) == row[:size]:
                first |= {f"{size // part}({text})" for text in all_texts(row[:part], known)}
        rests = {""} if size == len(row) else {" " + text for text in all_texts(row[size:], known)}
        texts |= {one + rest for one in first for rest in rests}
    known[row] = texts
    return texts


class FoldTest(Case):
    def test_some(self):
        self.assertEqual(fold_row(("a",)), "a")
        self.assertEqual(fold_row(("a", "a")), "a a")
        self.assertEqual(fold_row(["a"] * 3), "3(a)")
        self.assertEqual(fold_row(("ab", "ab")), "2(ab)")
        self.assertEqual(fold_row(tuple("acacacab")), "3(a c) a b")
        self.assertEqual(fold_row(("a",) * 40), "40(a)")
        self.assertEqual(fold_row(("b", "a", "a", "b", "a", "a", "b", "a", "a")), "3(b a a)")
        self.assertEqual(fold_row(("b", "aa", "aa", "aa", "b", "aa", "aa", "aa")), "2(b 3(aa))")

    def test_of_any_plan(self):
        self.assertEqual(fold_row(("nobody", "knows", "knows", "knows", "these")), "nobody 3(knows) these")

    def test_against_trying_all_texts(self):
        known = {}
        for size in range(1, 10):
            for row in itertools.product("ab", repeat=size):
                self.assertEqual(fold_row(row), min(all_texts(row, known), key=lambda text: (len(text), text)))

    def test_longer_rows_against_trying_all_texts(self):
        dice = random.Random(7)
        for _ in range(150):
            names = dice.sample(("a", "b", "c", "longer", "bb"), 2)
            unit = tuple(dice.choice(names) for _ in range(dice.randint(1, 3)))
            row = (unit * 6)[:dice.randint(4, 9)] + unit[:dice.randint(0, 3)]
            self.assertEqual(fold_row(row), min(all_texts(row, {}), key=lambda text: (len(text), text)))

    def test_long_rows(self):
        self.assertEqual(fold_row(("a", "b") * 20), "20(a b)")
        dice = random.Random(8)
        row = tuple(dice.choice("ab") for _ in range(40))
        self.assertLess(len(fold_row(row)), 80)
        self.fails(TooLong, 41, fold_row, ("a",) * 41)
        self.fails(TooLong, 400, fold_row, ["a"] * 400)

    def test_bad_rows(self):
        for row in ((), [], None, "a", 5, True, {}, ("a",) * 401, (None,) * 401):
            self.fails(BadRow, -1, fold_row, row)
        for thing in ("", "A", "a b", "abcdefghi", None, True, 3, ("a",), ["a"]):
            self.fails(BadRow, 1, fold_row, ("a", thing, thing))
            self.fails(BadRow, 60, fold_row, ("a",) * 60 + (thing,))
