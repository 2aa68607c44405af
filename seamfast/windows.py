"""Windows: what a desk knows of the pieces that come."""

from seamfast.errors import BadForesight, TooMany
from seamfast.forms import is_within, items_of
from seamfast.ways import judged_version

MOST_FORESIGHT = 4
MOST_WINDOWS = 400


def judge_foresight(foresight):
    """Raises the error of a bad foresight."""
    if not is_within(foresight, 0, MOST_FORESIGHT):
        raise BadForesight(foresight)


def windows(plan, foresight):
    """The windows of a foresight, ascending."""
    judge_foresight(foresight)
    found = []
    rows = [(name,) for name in plan.names]
    for _ in range(foresight):
        found.extend([row for row in rows if row[-1] in plan.ends])
        rows = [row + (name,) for row in rows for name in plan.followers(row[-1])]
        # Each row is a window, or leads to longer ones: so there are no fewer windows than rows.
        if len(rows) > MOST_WINDOWS:
            raise TooMany("window")
    found.extend(rows)
    if len(found) > MOST_WINDOWS:
        raise TooMany("window")
    return tuple(sorted(found))


def first_windows(plan, foresight):
    """The windows with which a version can begin, ascending."""
    return tuple([window for window in windows(plan, foresight) if window[0] in plan.starts])


def windows_behind(plan, foresight, window):
    """The windows that can come behind a window, ascending."""
    judge_foresight(foresight)
    names = items_of(window)
    rest = names[1:]
    if len(names) <= foresight:
        return (rest,) if len(rest) > 0 else ()
    behind = [rest + (name,) for name in plan.followers(names[-1])]
    if foresight > 0 and names[-1] in plan.ends:
        behind.append(rest)
    return tuple(sorted(behind))


def windows_of(plan, foresight, version):
    """The windows that are known at the pieces of a version, in order."""
    judge_foresight(foresight)
    names = judged_version(plan, version)
    return tuple([names[number:number + foresight + 1] for number in range(len(names))])
