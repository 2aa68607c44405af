"""All ways to pick some of several things."""


def picks(things):
    """All tuples of some of the things in their order: those of fewer things first, then as tuples are compared."""
    found = [()]
    # The tuples of one thing fewer, each with the number of the thing behind its last one.
    last = [((), 0)]
    while len(last) > 0:
        last = [
            (pick + (things[number],), number + 1) for pick, first in last for number in range(first, len(things))
        ]
        found.extend([pick for pick, _ in last])
    return found
