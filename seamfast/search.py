"""Searches for least ways."""


class Search:
    """The states that ways lead to, in the order of the least ways that lead to them."""

    def __init__(self):
        # Each row has the last piece of a way, its state, and the number of the row ahead, or None.
        self.rows = []
        self.known = {}

    def put(self, name, state, ahead):
        """Takes up a state, whether or not it is known."""
        self.rows.append((name, state, ahead))

    def come_to(self, name, state, ahead):
        """Takes up a state, unless a lesser way leads to it."""
        if state not in self.known:
            self.known[state] = True
            self.put(name, state, ahead)

    def way_to(self, number):
        """The way that leads to the state of the row with this number; no way if it is None."""
        names = []
        while number is not None:
            name, _, number = self.rows[number]
            names.append(name)
        return tuple(names[::-1])


def way_search(plan, begun, step):
    """A search through the states of all ways; `step(state, name)` tells the state behind a piece.

    A state tells its piece, and from the beginning there are finitely many of them.
    """
    search = Search()
    for name in sorted(plan.starts):
        search.come_to(name, step(begun, name), None)
    at = 0
    while at < len(search.rows):
        last, state, _ = search.rows[at]
        for name in plan.followers(last):
            search.come_to(name, step(state, name), at)
        at += 1
    return search


class WorstSearch:
    """A search for the least way on which something goes wrong, where from a worse state no less goes wrong.

    Told is for each piece what it does: `fails(state)`, `state_behind(state)` and `is_worse(state, other)`. A way
    is gone on with only if its state is worse than those of all lesser ways to its last piece: otherwise
    something goes wrong on one of these with whatever follows, too.
    """

    def __init__(self, plan, told):
        self.plan = plan
        self.told = told
        # The worst state at the end of each piece.
        self.worst = {}
        self.search = Search()

    def go_on(self, names, state, at):
        """Goes on by each of the pieces; tells the first one in which something goes wrong, or None."""
        for name in names:
            step = self.told[name]
            if step.fails(state):
                return name
            behind = step.state_behind(state)
            if name not in self.worst or step.is_worse(behind, self.worst[name]):
                self.worst[name] = behind
                self.search.put(name, behind, at)
        return None

    def least_way(self, begun):
        """The least way, begun with this state, on which something goes wrong, in its last piece; or None."""
        wrong = self.go_on(sorted(self.plan.starts), begun, None)
        if wrong is not None:
            return (wrong,)
        at = 0
        while at < len(self.search.rows):
            name, state, _ = self.search.rows[at]
            wrong = self.go_on(self.plan.followers(name), state, at)
            if wrong is not None:
                return self.search.way_to(at) + (wrong,)
            at += 1
        return None
