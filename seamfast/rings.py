"""Rings of pieces, each piece with a weight."""


class Rings:
    """The rings of at most as many pieces as there are, by the sums of the weights of their pieces.

    A longer ring passes some piece twice, and so consists of shorter ones: the greatest weights and
    shares of all rings, and the least rings that have them, are those of these. Told is, for each
    piece, the ascending tuple of those to which arrows lead from it.
    """

    def __init__(self, behind, weights):
        self.behind = behind
        self.weights = weights
        # For each name and each number of arrows, what the rows along these weigh at most that begin with
        # a piece and end with one from which an arrow leads to the name.
        self.rows = {name: self.weights_to(name) for name in behind}

    def weights_to(self, first):
        """What rows weigh at most from which an arrow leads to the first piece, by their arrows and first pieces."""
        rows = [{name: self.weights[name] for name, others in self.behind.items() if first in others}]
        while len(rows) < len(self.behind):
            last = rows[-1]
            found = {}
            for name, others in self.behind.items():
                rests = [last[other] for other in others if other in last]
                if len(rests) > 0:
                    found[name] = self.weights[name] + max(rests)
            rows.append(found)
        return rows

    def greatest_weight(self):
        """The greatest weight of a ring, None if there is no ring."""
        weights = []
        for name in self.behind:
            weights.extend([row[name] for row in self.rows[name] if name in row])
        return max(weights, default=None)

    def least_ring(self, bound):
        """The least ring that does not weigh less than the bound, or None."""
        names = sorted(self.behind)
        for arrows in range(len(self.behind)):
            for first in names:
                row = self.rows[first][arrows]
                if first in row and row[first] >= bound:
                    return self.filled_up(first, arrows, bound)
        return None

    def filled_up(self, first, arrows, bound):
        """The least ring with this first piece and so many more that does not weigh less than the bound."""
        ring = [first]
        weight = self.weights[first]
        for left in reversed(range(arrows)):
            row = self.rows[first][left]
            name = min([
                other for other in self.behind[ring[-1]] if other in row and weight + row[other] >= bound
            ])
            ring.append(name)
            weight += self.weights[name]
        return tuple(ring)
