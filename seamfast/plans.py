"""Plans: of which pieces of a reel a version of the picture may be made."""

from math import gcd, lcm

from seamfast.errors import BadArrow, BadEnd, BadPiece, BadStart, TooMany, Twice, Unknown, Unreached
from seamfast.forms import is_integer, is_within, items_of, parts_of
from seamfast.reels import is_name

MOST_PIECES = 12
MOST_RATE = 6
ON = "on"


def piece_of_form(reel, thing):
    """The thing as a piece of the reel, None if it is none."""
    parts = parts_of(thing, 6)
    if parts is None:
        return None
    name, start, end, above, below, way = parts
    if not is_name(name) or not is_integer(start) or not is_integer(end):
        return None
    if not 0 <= start < end <= reel.length:
        return None
    if not is_within(above, 1, MOST_RATE) or not is_within(below, 1, MOST_RATE) or gcd(above, below) > 1:
        return None
    if not isinstance(way, str) or way not in Plan.WAYS:
        return None
    return parts


def judged_pieces(reel, pieces):
    """The pieces of a plan over the reel, as tuples."""
    items = items_of(pieces)
    if not items:
        raise BadPiece(-1)
    judged = []
    for number, thing in enumerate(items):
        piece = piece_of_form(reel, thing)
        if piece is None:
            raise BadPiece(number)
        judged.append(piece)
    if len(judged) > MOST_PIECES:
        raise TooMany("piece")
    known = {}
    for piece in judged:
        if piece[0] in known:
            raise Twice(piece[0])
        known[piece[0]] = True
    return tuple(judged)


def judged_arrows(names, arrows):
    """The arrows between pieces with these names, as tuples."""
    items = items_of(arrows)
    if items is None:
        raise BadArrow(-1)
    judged = []
    for number, thing in enumerate(items):
        arrow = parts_of(thing, 2)
        if arrow is None or arrow[0] not in names or arrow[1] not in names or arrow in judged:
            raise BadArrow(number)
        judged.append(arrow)
    return tuple(judged)


def wrong_name(names, things):
    """The number of the first thing that is not one of the names or comes again, -1 for the whole, or None."""
    items = items_of(things)
    if not items:
        return -1
    for number, thing in enumerate(items):
        if thing not in names or thing in items[:number]:
            return number
    return None


def judged_starts(names, starts):
    """The starts, as a tuple."""
    wrong = wrong_name(names, starts)
    if wrong is not None:
        raise BadStart(wrong)
    return items_of(starts)


def judged_ends(names, ends):
    """The ends, as a tuple."""
    wrong = wrong_name(names, ends)
    if wrong is not None:
        raise BadEnd(wrong)
    return items_of(ends)


def led_to(names, arrows):
    """All names to which arrows lead from these, themselves included."""
    found = list(names)
    at = 0
    while at < len(found):
        for left, right in arrows:
            if left == found[at] and right not in found:
                found.append(right)
        at += 1
    return found


def first_unreached(names, arrows, starts, ends):
    """The first name that stands in no version, or None."""
    begun = led_to(starts, arrows)
    ending = led_to(ends, [(right, left) for left, right in arrows])
    for name in names:
        if name not in begun or name not in ending:
            return name
    return None


def strip_of_piece(reel, piece, factor):
    """Which cues are on the screen in a piece, and when, in grains from its beginning."""
    _, start, end, _, _, way = piece
    strip = []
    for number, cue in enumerate(reel.cues):
        low = max(start, cue[0])
        high = min(end, cue[1])
        if low < high and way == ON:
            strip.append((number, (low - start) * factor, (high - start) * factor))
        elif low < high:
            strip.append((number, (end - high) * factor, (end - low) * factor))
    # Run back, the last cue of the reel is the first one on the screen.
    return tuple(strip) if way == ON else tuple(strip[::-1])


def sends_of_piece(reel, piece, strip):
    """The cues of the strip that come on with their own edge, and when."""
    _, start, end, _, _, way = piece
    sends = []
    for number, moment, _ in strip:
        first, last, _, _ = reel.cues[number]
        whole_edge = first >= start if way == ON else last <= end
        if whole_edge:
            sends.append((number, moment))
    return tuple(sends)


class Plan:
    """A plan: pieces of a reel, and which of them may follow which."""

    WAYS = ("on", "back")

    def __init__(self, reel, pieces, arrows, starts, ends):
        self.reel = reel
        self.pieces = judged_pieces(reel, pieces)
        self._names = tuple([piece[0] for piece in self.pieces])
        self.arrows = judged_arrows(self._names, arrows)
        self.starts = judged_starts(self._names, starts)
        self.ends = judged_ends(self._names, ends)
        missing = first_unreached(self._names, self.arrows, self.starts, self.ends)
        if missing is not None:
            raise Unreached(missing)
        grain = 1
        for piece in self.pieces:
            grain = lcm(grain, piece[4])
        self._grain = grain
        self._pieces = {piece[0]: piece for piece in self.pieces}
        self._factors = {piece[0]: piece[3] * grain // piece[4] for piece in self.pieces}
        self._shown = {piece[0]: (piece[2] - piece[1]) * self._factors[piece[0]] for piece in self.pieces}
        self._behind = {
            name: tuple(sorted([right for left, right in self.arrows if left == name])) for name in self._names
        }
        self._strips = {
            name: strip_of_piece(reel, self._pieces[name], self._factors[name]) for name in self._names
        }
        self._sends = {
            name: sends_of_piece(reel, self._pieces[name], self._strips[name]) for name in self._names
        }

    @property
    def grain(self):
        """How many grains make a tick."""
        return self._grain

    @property
    def names(self):
        """The names of the pieces, in order."""
        return self._names

    def piece_of(self, name):
        """The piece with this name."""
        if name not in self:
            raise Unknown(name)
        return self._pieces[name]

    def factor_of(self, name):
        """How many grains one tick of the reel takes in this piece."""
        if name not in self:
            raise Unknown(name)
        return self._factors[name]

    def shown_of(self, name):
        """How many grains this piece is shown."""
        if name not in self:
            raise Unknown(name)
        return self._shown[name]

    def followers(self, name):
        """The names to which arrows lead from this piece, ascending."""
        if name not in self:
            raise Unknown(name)
        return self._behind[name]

    def strip_of(self, name):
        """Which cues are on the screen in this piece, as triples."""
        if name not in self:
            raise Unknown(name)
        return self._strips[name]

    def sends_of(self, name):
        """Which cues are sent in this piece, as pairs."""
        if name not in self:
            raise Unknown(name)
        return self._sends[name]

    def __contains__(self, x):
        return isinstance(x, str) and x in self._names

    def __len__(self):
        return len(self.pieces)

    def __iter__(self):
        return iter(self._names)

    def __eq__(self, other):
        return (
            isinstance(other, Plan) and self.reel == other.reel and self.pieces == other.pieces
            and self.arrows == other.arrows and self.starts == other.starts and self.ends == other.ends
        )
