"""Rows of pieces, ways and versions."""

from seamfast.errors import BadNumber, BadRow, BadWay
from seamfast.forms import is_within, items_of

MOST_NAMES = 400
MOST_TOLD = 20


def judged_row(plan, row):
    """The row as a tuple."""
    names = items_of(row)
    if names is None or not 1 <= len(names) <= MOST_NAMES:
        raise BadRow(-1)
    for number, name in enumerate(names):
        if name not in plan:
            raise BadRow(number)
    return names


def wrong_step(plan, names):
    """The index of the first piece by which a row is no way, or None."""
    if names[0] not in plan.starts:
        return 0
    for number in range(1, len(names)):
        if names[number] not in plan.followers(names[number - 1]):
            return number
    return None


def judged_way(plan, way):
    """The way as a tuple."""
    names = judged_row(plan, way)
    wrong = wrong_step(plan, names)
    if wrong is not None:
        raise BadWay(wrong)
    return names


def judged_version(plan, version):
    """The version as a tuple."""
    names = judged_way(plan, version)
    if names[-1] not in plan.ends:
        raise BadWay(len(names))
    return names


def is_way(plan, row):
    """Whether the row is a way."""
    return wrong_step(plan, judged_row(plan, row)) is None


def is_version(plan, row):
    """Whether the row is a version."""
    names = judged_row(plan, row)
    return wrong_step(plan, names) is None and names[-1] in plan.ends


def row_length(plan, row):
    """How many grains the row is shown."""
    return sum([plan.shown_of(name) for name in judged_row(plan, row)])


def way_key(way):
    """By what ways are compared."""
    return len(way), way


def sends_along(plan, names):
    """The sends of a row of any length that is known to be one."""
    sends = []
    begun = 0
    for name in names:
        for cue, moment in plan.sends_of(name):
            sends.append((cue, begun + moment))
        begun += plan.shown_of(name)
    return tuple(sends)


def row_sends(plan, row):
    """The cues that are sent in the row, with the moments in grains from its beginning."""
    return sends_along(plan, judged_row(plan, row))


def names_ahead(plan, lasts, most):
    """For each number of pieces still to come, the names from which one of the lasts is come to by so many."""
    ahead = [tuple(lasts)]
    while len(ahead) < most:
        near = ahead[-1]
        ahead.append(tuple([
            name for name in plan.names if any([other in near for other in plan.followers(name)])
        ]))
    return ahead


def least_of(names, allowed, above):
    """The least of the names that is allowed and greater than the one above, or None."""
    return min([name for name in names if name in allowed and name > above], default=None)


def filled_up(plan, names, ahead, size):
    """The least row of this size that begins with these names; ahead tells which names lead on far enough."""
    row = list(names)
    while len(row) < size:
        row.append(least_of(plan.followers(row[-1]), ahead[size - 1 - len(row)], ""))
    return tuple(row)


def least_row(plan, ahead, size):
    """The least row of this size from a start to a last piece, or None."""
    first = least_of(plan.starts, ahead[size - 1], "")
    if first is None:
        return None
    return filled_up(plan, (first,), ahead, size)


def row_behind(plan, ahead, row):
    """The next greater row of the same size from a start to a last piece, or None."""
    size = len(row)
    for number in reversed(range(size)):
        names = plan.starts if number == 0 else plan.followers(row[number - 1])
        greater = least_of(names, ahead[size - 1 - number], row[number])
        if greater is not None:
            return filled_up(plan, row[:number] + (greater,), ahead, size)
    return None


def judge_most(most):
    """Raises the error of a bad greatest number of pieces."""
    if not is_within(most, 0, MOST_TOLD):
        raise BadNumber("most")


def rows_to(plan, lasts, most):
    """All ways of at most so many pieces to one of the last pieces, in their order."""
    judge_most(most)
    ahead = names_ahead(plan, lasts, most)
    for size in range(1, most + 1):
        row = least_row(plan, ahead, size)
        while row is not None:
            yield row
            row = row_behind(plan, ahead, row)


def ways(plan, most):
    """All ways of at most so many pieces, in their order."""
    lasts = plan.names
    yield from rows_to(plan, lasts, most)


def versions(plan, most):
    """All versions of at most so many pieces, in their order."""
    lasts = plan.ends
    yield from rows_to(plan, lasts, most)
