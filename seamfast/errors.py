"""The errors that the program raises; each keeps what it is made with."""


class CaptionError(ValueError):
    """What all errors of the program have in common."""


class BadLength(CaptionError):
    """A length is not as its point tells."""

    def __init__(self, length):
        self.length = length


class BadCue(CaptionError):
    """A cue is not as its point tells, or there is none with this number."""

    def __init__(self, number):
        self.number = number


class BadPiece(CaptionError):
    """A piece is not as its point tells."""

    def __init__(self, number):
        self.number = number


class BadArrow(CaptionError):
    """An arrow is not as its point tells."""

    def __init__(self, number):
        self.number = number


class BadStart(CaptionError):
    """One of the starts is not as its point tells."""

    def __init__(self, number):
        self.number = number


class BadEnd(CaptionError):
    """One of the ends is not as its point tells."""

    def __init__(self, number):
        self.number = number


class Unreached(CaptionError):
    """A piece stands in no version."""

    def __init__(self, name):
        self.name = name


class Twice(CaptionError):
    """A name is given to two things."""

    def __init__(self, name):
        self.name = name


class TooMany(CaptionError):
    """There are more things of a kind than its point lets."""

    def __init__(self, word):
        self.word = word


class TooLong(CaptionError):
    """A row has more pieces than its point lets."""

    def __init__(self, number):
        self.number = number


class BadRow(CaptionError):
    """A row has something that is no name of a piece, or is none."""

    def __init__(self, number):
        self.number = number


class BadWay(CaptionError):
    """A row does not go on as a way or a version does."""

    def __init__(self, number):
        self.number = number


class BadItem(CaptionError):
    """An item of a roll is not as its point tells."""

    def __init__(self, number):
        self.number = number


class BadText(CaptionError):
    """A text has a character that cannot stand where it stands, or is none."""

    def __init__(self, at):
        self.at = at


class BadWidth(CaptionError):
    """A width is not as its point tells."""

    def __init__(self, width):
        self.width = width


class TooWide(CaptionError):
    """A text cannot be shown in two lines below this width."""

    def __init__(self, least):
        self.least = least


class BadLine(CaptionError):
    """A word of a line cannot stand where it stands."""

    def __init__(self, line, word):
        self.line = line
        self.word = word


class BadNumber(CaptionError):
    """The number that this word names is not as its point tells."""

    def __init__(self, word):
        self.word = word


class BadPrices(CaptionError):
    """A price is not as its point tells."""

    def __init__(self, number):
        self.number = number


class BadPace(CaptionError):
    """A pace is not as its point tells."""

    def __init__(self, pace):
        self.pace = pace


class BadRoom(CaptionError):
    """A room is not as its point tells."""

    def __init__(self, room):
        self.room = room


class TooSlow(CaptionError):
    """A pace is below the least pace."""

    def __init__(self, pace):
        self.pace = pace


class BadWording(CaptionError):
    """The wordings of a cue are not as their point tells."""

    def __init__(self, number):
        self.number = number


class BadCoins(CaptionError):
    """A number of coins is not as its point tells."""

    def __init__(self, number):
        self.number = number


class BadForesight(CaptionError):
    """A foresight is not as its point tells."""

    def __init__(self, number):
        self.number = number


class Beaten(CaptionError):
    """A desk has no choice at a piece."""

    def __init__(self, number):
        self.number = number


class BadNamed(CaptionError):
    """A named cue is not as its point tells."""

    def __init__(self, number):
        self.number = number


class BadMemory(CaptionError):
    """A memory is not as its point tells."""

    def __init__(self, memory):
        self.memory = memory


class Apart(CaptionError):
    """Two speakers are not near."""

    def __init__(self, first, second):
        self.first = first
        self.second = second


class BadMark(CaptionError):
    """A mark is not as its point tells."""

    def __init__(self, number):
        self.number = number


class BadLot(CaptionError):
    """A lot is not one that is asked for."""

    def __init__(self, lot):
        self.lot = lot


class NoDeed(CaptionError):
    """There is no deed to be undone or done again."""

    def __init__(self, word):
        self.word = word


class BadHeard(CaptionError):
    """Something heard is not as its point tells."""

    def __init__(self, number):
        self.number = number


class BadDelay(CaptionError):
    """A delay is not as its point tells."""

    def __init__(self, number):
        self.number = number


class Silent(CaptionError):
    """A ring with this piece sends nothing."""

    def __init__(self, name):
        self.name = name


class BadRate(CaptionError):
    """A rate is not as its point tells."""

    def __init__(self, number):
        self.number = number


class BadEntry(CaptionError):
    """An entry of a re-cut is not as its point tells."""

    def __init__(self, number):
        self.number = number


class BadTail(CaptionError):
    """A tail of a re-cut is not as its point tells."""

    def __init__(self, number):
        self.number = number


class Stuck(CaptionError):
    """A re-cut is stuck on a version."""

    def __init__(self, version):
        self.version = version


class NoPlace(CaptionError):
    """There is no place with this number."""

    def __init__(self, number):
        self.number = number


class BadName(CaptionError):
    """A name is not as its point tells."""

    def __init__(self, name):
        self.name = name


class Unknown(CaptionError):
    """There is nothing with this name."""

    def __init__(self, name):
        self.name = name


class Unlike(CaptionError):
    """A thing is over another one than told."""

    def __init__(self, word):
        self.word = word


class InUse(CaptionError):
    """A thing is kept over the one to be struck."""

    def __init__(self, name):
        self.name = name


class Torn(CaptionError):
    """A journal is not whole."""

    def __init__(self, line):
        self.line = line
