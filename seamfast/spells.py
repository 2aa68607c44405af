"""Sets of integers told as spells: ascending pairs of a least and a greatest one, that do not touch."""


def moved(spells, by):
    """The spells, each integer so much greater."""
    return [(low + by, high + by) for low, high in spells]


def joined(spells):
    """The spells of all integers that lie in some of these pairs, which may stand in any order."""
    told = []
    for low, high in sorted(spells):
        if len(told) > 0 and low <= told[-1][1] + 1:
            told[-1] = (told[-1][0], max(told[-1][1], high))
        else:
            told.append((low, high))
    return told


def shared(left, right):
    """The spells of all integers that lie in both."""
    found = []
    at = 0
    other = 0
    while at < len(left) and other < len(right):
        low = max(left[at][0], right[other][0])
        high = min(left[at][1], right[other][1])
        if low <= high:
            found.append((low, high))
        if left[at][1] < right[other][1]:
            at += 1
        else:
            other += 1
    return found
