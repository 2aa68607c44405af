"""Desks that know some pieces ahead, and the director who plays against them."""

from seamfast.errors import Beaten
from seamfast.forms import is_integer, is_within, items_of, parts_of
from seamfast.thresholds import Thresholds
from seamfast.windows import first_windows, judge_foresight, windows, windows_behind, windows_of


class Foresight:
    """What a desk of a foresight keeps, and what the director does where it does not."""

    def __init__(self, desk, many):
        judge_foresight(many)
        self.desk = desk
        self.many = many
        self._game = Thresholds(desk, many)
        self.table = tuple([
            (window, tuple(told)) for window, told in zip(self._game.windows, self._game.told)
        ])
        ranks = [(self.rank(window, 0, desk.most), window) for window in first_windows(desk.plan, many)]
        beaten = [pair for pair in ranks if pair[0] is not None]
        self.director = self.director_from(min(beaten)[1]) if len(beaten) > 0 else None

    def director_from(self, window):
        """The director's table that begins with a window, the lag 0 and a full purse."""
        rows = []
        found = [(window, 0, self.desk.most)]
        known = {found[0]: True}
        while len(rows) < len(found):
            window, lag, coins = found[len(rows)]
            rows.append((window, lag, coins, self.rank(window, lag, coins)))
            for level in range(self.desk.levels):
                done = self.desk.done(window[0], level, lag, coins)
                if done is None:
                    continue
                behind = (self.reply(window, lag, coins, level),) + done
                if behind not in known:
                    known[behind] = True
                    found.append(behind)
        return tuple(rows)

    def threshold(self, window, coins):
        """The greatest lag from which the desk keeps, -1 if there is none."""
        return self._game.threshold(items_of(window), coins)

    def rank(self, window, lag, coins):
        """Within how many pieces the director beats the desk, None if it keeps."""
        return self._game.rank(items_of(window), lag, coins)

    def pick(self, window, lag, coins):
        """The choice of the desk, None if it has none."""
        names = items_of(window)
        behind = windows_behind(self.desk.plan, self.many, names)
        for level in range(self.desk.levels):
            done = self.desk.done(names[0], level, lag, coins)
            if done is not None and all([self.threshold(other, done[1]) >= done[0] for other in behind]):
                return level
        return None

    def reply(self, window, lag, coins, level):
        """The answer of the director to a good level."""
        names = items_of(window)
        end, left = self.desk.done(names[0], level, lag, coins)
        ranks = [(self.rank(other, end, left), other) for other in windows_behind(self.desk.plan, self.many, names)]
        return min([pair for pair in ranks if pair[0] is not None])[1]

    def play(self, version):
        """The level of each piece of a version, with the lag at its end and the coins left."""
        told = []
        lag = 0
        coins = self.desk.most
        for number, window in enumerate(windows_of(self.desk.plan, self.many, version)):
            level = self.pick(window, lag, coins)
            if level is None:
                raise Beaten(number)
            lag, coins = self.desk.done(window[0], level, lag, coins)
            told.append((level, lag, coins))
        return tuple(told)

    def __bool__(self):
        return self.director is None

    def __len__(self):
        return len(self.table)

    def __iter__(self):
        return iter(self.table)


def window_form(thing, known):
    """The thing as one of the known windows, None if it is none."""
    names = items_of(thing)
    if names is None or not all([isinstance(name, str) for name in names]):
        return None
    return names if names in known else None


def thresholds_form(desk, known, thing):
    """The thing as a row of a table of thresholds, None if it does not have the form."""
    pair = parts_of(thing, 2)
    if pair is None:
        return None
    window = window_form(pair[0], known)
    told = parts_of(pair[1], desk.most + 1)
    if window is None or told is None or not all([is_within(lag, -1, desk.full_points) for lag in told]):
        return None
    return window, told


def keeps_by(desk, many, window, lag, coins, told):
    """Whether some level is good and keeps to the thresholds that are told of the windows behind."""
    behind = windows_behind(desk.plan, many, window)
    for level in range(desk.levels):
        done = desk.done(window[0], level, lag, coins)
        if done is not None and all([told[other][done[1]] >= done[0] for other in behind]):
            return True
    return False


def judge_thresholds(desk, many, table):
    """None if the thresholds are right, -1 if they lack what they must have, or the number of the first wrong row."""
    known = {window: True for window in windows(desk.plan, many)}
    rows = items_of(table)
    if rows is None:
        return -1
    forms = [thresholds_form(desk, known, row) for row in rows]
    told = {}
    for form in forms:
        if form is not None and form[0] not in told:
            told[form[0]] = form[1]
    if len(told) < len(known):
        return -1
    if not all([told[window][desk.most] >= 0 for window in first_windows(desk.plan, many)]):
        return -1
    for number, form in enumerate(forms):
        if form is None or not all([
            lag == -1 or keeps_by(desk, many, form[0], lag, coins, told) for coins, lag in enumerate(form[1])
        ]):
            return number
    return None


def rank_form(desk, known, thing):
    """The thing as a row of a director's table, None if it does not have the form."""
    parts = parts_of(thing, 4)
    if parts is None:
        return None
    window = window_form(parts[0], known)
    if window is None or not is_within(parts[1], 0, desk.full_points) or not is_within(parts[2], 0, desk.most):
        return None
    if not is_integer(parts[3]) or parts[3] < 1:
        return None
    return (window,) + parts[1:]


def beats_by(desk, many, row, told):
    """Whether each good level leads to a row of a lesser rank."""
    window, lag, coins, rank = row
    behind = windows_behind(desk.plan, many, window)
    for level in range(desk.levels):
        done = desk.done(window[0], level, lag, coins)
        if done is not None and not any([told.get((other,) + done, rank) < rank for other in behind]):
            return False
    return True


def judge_director(desk, many, table):
    """None if the director's table is right, -1 if it lacks a beginning, or the number of the first wrong row."""
    known = {window: True for window in windows(desk.plan, many)}
    rows = items_of(table)
    if rows is None:
        return -1
    forms = [rank_form(desk, known, row) for row in rows]
    told = {}
    for form in forms:
        if form is not None and form[:3] not in told:
            told[form[:3]] = form[3]
    if not any([(window, 0, desk.most) in told for window in first_windows(desk.plan, many)]):
        return -1
    for number, form in enumerate(forms):
        if form is None or not beats_by(desk, many, form, told):
            return number
    return None
