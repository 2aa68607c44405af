"""The thresholds of a desk, round by round."""

from seamfast.windows import windows, windows_behind


class Thresholds:
    """Up to which lags a desk always has a good level, for so many pieces more or for ever.

    In the round 0 nothing is asked; each round asks for a good level at one piece more. When no
    threshold falls any more, the desk keeps for ever. The rank of a lag is the first round whose
    threshold is below it.
    """

    def __init__(self, desk, many):
        self.desk = desk
        self.windows = windows(desk.plan, many)
        self.numbers = {window: number for number, window in enumerate(self.windows)}
        # For each window, what lies behind; several windows can have the same ones behind.
        self.group_of = []
        self.groups = []
        self.groups_with = [[] for _ in self.windows]
        self.sort_out(many)
        full = desk.full_points
        self.told = [[full] * (desk.most + 1) for _ in self.windows]
        # For each window and number of coins, the rounds in which the threshold fell, each with the threshold.
        self.falls = [[[] for _ in range(desk.most + 1)] for _ in self.windows]
        # For each group and number of coins, the lag up to which the desk keeps with all its windows.
        self.limits = [[full] * (desk.most + 1) for _ in self.groups]
        self.moves = {name: self.moves_of(name) for name in desk.plan.names}
        self.members = [[] for _ in self.groups]
        for number, group in enumerate(self.group_of):
            self.members[group].append(number)
        self.run()

    def sort_out(self, many):
        """Tells which windows lie behind which, and which have the same ones behind."""
        known = {}
        for window in self.windows:
            behind = windows_behind(self.desk.plan, many, window)
            if behind not in known:
                known[behind] = len(known)
                numbers = [self.numbers[other] for other in behind]
                self.groups.append(numbers)
                for number in numbers:
                    self.groups_with[number].append(known[behind])
            self.group_of.append(known[behind])

    def moves_of(self, name):
        """For each number of coins, what the levels that are open in a piece do, with the coins left."""
        desk = self.desk
        told = []
        for coins in range(desk.most + 1):
            left = [(desk.reading_at(name, level), desk.coins_left(name, level, coins)) for level in range(desk.levels)]
            told.append([(reading, rest) for reading, rest in left if rest >= 0])
        return told

    def run(self):
        """Goes through the rounds until nothing falls any more."""
        groups = list(range(len(self.groups)))
        number = 1
        while len(groups) > 0:
            fallen = self.next_round(number, groups)
            groups = sorted(set([group for window in fallen for group in self.groups_with[window]]))
            for group in groups:
                self.limits[group] = [
                    min([self.told[window][coins] for window in self.groups[group]])
                    for coins in range(self.desk.most + 1)
                ]
            number += 1

    def next_round(self, number, groups):
        """The windows of which thresholds fall in a round, where the limits of these groups fell ahead of it."""
        full = self.desk.full_points
        fallen = []
        for group in groups:
            limits = self.limits[group]
            for window in self.members[group]:
                moves = self.moves[self.windows[window][0]]
                fell = False
                for coins, told in enumerate(self.told[window]):
                    most = max([reading.most_ahead(full, limits[rest]) for reading, rest in moves[coins]], default=-1)
                    if most < told:
                        self.falls[window][coins].append((number, most))
                        fell = True
                if fell:
                    fallen.append(window)
        for window in fallen:
            for coins, fall in enumerate(self.falls[window]):
                if len(fall) > 0:
                    self.told[window][coins] = fall[-1][1]
        return fallen

    def threshold(self, window, coins):
        """The greatest lag from which the desk keeps, -1 if there is none."""
        return self.told[self.numbers[window]][coins]

    def rank(self, window, lag, coins):
        """The rank of a lag, None if the desk keeps from it."""
        falls = self.falls[self.numbers[window]][coins]
        if len(falls) == 0 or falls[-1][1] >= lag:
            return None
        low = 0
        high = len(falls) - 1
        while low < high:
            middle = (low + high) // 2
            if falls[middle][1] < lag:
                high = middle
            else:
                low = middle + 1
        return falls[low][0]
