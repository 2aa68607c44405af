"""Names, texts and reels."""

from seamfast.errors import BadCue, BadLength, TooMany
from seamfast.forms import LETTERS, is_integer, is_within, items_of, parts_of

# The percent sign by its number, since it cannot be written in a string here.
PERCENT = 37
MOST_TICKS = 2000
MOST_CUES = 40


def is_name(thing):
    """Whether this is a name."""
    if not isinstance(thing, str) or not 1 <= len(thing) <= 8:
        return False
    return all([sign in LETTERS for sign in thing])


def has_percent(word):
    """Whether a string has a percent sign."""
    return PERCENT in [ord(sign) for sign in word]


def is_text(thing):
    """Whether this is a text."""
    if not isinstance(thing, str) or not 1 <= len(thing) <= 60:
        return False
    if has_percent(thing) or not all([" " <= sign <= "~" for sign in thing]):
        return False
    return thing[0] != " " and thing[-1] != " " and "  " not in thing


def cue_of(thing, earliest, length):
    """The thing as a cue that starts from the earliest moment on, None if it is none."""
    parts = parts_of(thing, 4)
    if parts is None:
        return None
    start, end, speaker, text = parts
    if not is_integer(start) or not is_integer(end) or not is_name(speaker) or not is_text(text):
        return None
    if not earliest <= start < end <= length:
        return None
    return parts


def judged_cues(length, cues):
    """The cues of a reel of this length, as tuples."""
    items = items_of(cues)
    if items is None:
        raise BadCue(-1)
    judged = []
    earliest = 0
    for number, thing in enumerate(items):
        cue = cue_of(thing, earliest, length)
        if cue is None:
            raise BadCue(number)
        judged.append(cue)
        earliest = cue[1]
    if len(judged) > MOST_CUES:
        raise TooMany("cue")
    return tuple(judged)


class Reel:
    """A reel of the picture with the cues that it bears."""

    def __init__(self, length, cues=()):
        if not is_within(length, 1, MOST_TICKS):
            raise BadLength(length)
        self.length = length
        self.cues = judged_cues(length, cues)
        self._speakers = tuple(sorted(set([cue[2] for cue in self.cues])))
        self._naming = tuple([
            number for number, cue in enumerate(self.cues) if cue[3].startswith(cue[2] + ":")
        ])

    @property
    def speakers(self):
        """The speakers of the cues, ascending."""
        return self._speakers

    @property
    def naming(self):
        """The numbers of the cues that name their speakers, ascending."""
        return self._naming

    def __len__(self):
        return len(self.cues)

    def __getitem__(self, at):
        if not is_within(at, 0, len(self.cues) - 1):
            raise BadCue(at)
        return self.cues[at]

    def __iter__(self):
        return iter(self.cues)

    def __eq__(self, other):
        return isinstance(other, Reel) and self.length == other.length and self.cues == other.cues
