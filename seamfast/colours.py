"""Speakers in colours, so that those who are near are told apart."""

from seamfast.errors import BadNumber, TooMany, Unknown
from seamfast.forms import is_within, parts_of
from seamfast.nearness import Nearness, judge_within

MOST_SPEAKERS = 7


def first_colouring(near, speakers, many, given):
    """The first colouring with colours less than a number that begins with the colours given, or None."""
    if len(given) == len(speakers):
        return given
    taken = [
        colour for other, colour in zip(speakers, given) if (other, speakers[len(given)]) in near
    ]
    for colour in range(many):
        if colour not in taken:
            found = first_colouring(near, speakers, many, given + (colour,))
            if found is not None:
                return found
    return None


def tree_of(near, speakers, many, given):
    """The tree of cases of a branch on which the first speakers have these colours."""
    if len(given) > 0:
        last = speakers[len(given) - 1]
        for other, colour in zip(speakers, given[:-1]):
            if colour == given[-1] and (other, last) in near:
                return other, last
    speaker = speakers[len(given)]
    return speaker, tuple([tree_of(near, speakers, many, given + (colour,)) for colour in range(many)])


class Colours:
    """The first colouring of the speakers with the fewest colours, and why fewer do not suffice."""

    def __init__(self, plan, within):
        judge_within(within)
        self._speakers = plan.reel.speakers
        if len(self._speakers) > MOST_SPEAKERS:
            raise TooMany("speaker")
        near = Nearness(plan, within)
        self.fewest = 0
        self.colours = first_colouring(near, self._speakers, 0, ())
        while self.colours is None:
            self.fewest += 1
            self.colours = first_colouring(near, self._speakers, self.fewest, ())
        self.tree = None
        if self.fewest > 0:
            self.tree = tree_of(near, self._speakers, self.fewest - 1, ())

    def __getitem__(self, at):
        if not isinstance(at, str) or at not in self._speakers:
            raise Unknown(at)
        return self.colours[self._speakers.index(at)]

    def __len__(self):
        return len(self.colours)

    def __iter__(self):
        return iter(self.colours)


def is_tree(near, speakers, many, tree, given):
    """Whether this is a tree of cases of a branch on which some speakers have the colours given, as a dict."""
    pair = parts_of(tree, 2)
    if pair is None or not isinstance(pair[0], str) or pair[0] not in speakers:
        return False
    speaker, rest = pair
    if isinstance(rest, str):
        alike = speaker in given and rest in given and given[speaker] == given[rest]
        return alike and speaker < rest and (speaker, rest) in near
    trees = parts_of(rest, many)
    if trees is None or speaker in given:
        return False
    for colour, branch in enumerate(trees):
        more = dict(given)
        more[speaker] = colour
        if not is_tree(near, speakers, many, branch, more):
            return False
    return True


def judge_tree(plan, within, many, tree):
    """Whether this is a tree of cases for so many colours."""
    judge_within(within)
    if not is_within(many, 0, MOST_SPEAKERS):
        raise BadNumber("many")
    return is_tree(Nearness(plan, within), plan.reel.speakers, many, tree, {})
