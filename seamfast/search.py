"""Searches for least ways."""


class Search:
    """The states that ways lead to, in the order of the least ways that lead to them."""

    def __init__(self):
        # Each row has the last piece of a way, its state, and the number of the row ahead, or None.
        self.rows = []
        self.known = {}

    def put(self, name, state, ahead):
        """Takes up a state, whether or not it is known."""
        self.rows.append((name, state, ahead))

    def come_to(self, name, state, ahead):
        """Takes up a state, unless a lesser way leads to it."""
        if state not in self.known:
            self.known[state] = True
            self.put(name, state, ahead)

    def way_to(self, number):
        """The way that leads to the state of the row with this number; no way if it is None."""
        names = []
        while number is not None:
            name, _, number = self.rows[number]
            names.append(name)
        return tuple(names[::-1])
