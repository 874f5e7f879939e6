"""Formulas: the least credit of the pipe that is always enough, for all other credits."""

from sharedpipe.bounds import coverings, held_at, holds_own_credit, is_read
from sharedpipe.brims import safe_credit
from sharedpipe.checks import PIPE, least_own
from sharedpipe.errors import Unknown
from sharedpipe.slow import check_slow, quick_under


def least_credit(plan, slow):
    """Return the least credit of the pipe with which it never stands full."""
    check_slow(plan, slow)
    if not is_read(plan, PIPE):
        return plan[PIPE][1].threshold
    return safe_credit(plan, PIPE, coverings(plan, PIPE), slow)


def terms(plan, slow):
    """Return the ascending list of the tuples (constant, names) of whose sums the least is least_credit."""
    check_slow(plan, slow)
    rows = cover_terms(plan, slow)
    # Where the credits of the pools that are not named are great and those of the others as
    # small as may be, a term is less than all others, or it never is.
    floors = [(floor_of(plan, row), row) for row in rows]
    return [row for floor, row in floors if not is_beaten(floor, row, floors)]


def bend(plan, slow, stream):
    """Return the least own credit of a stream from which on least_credit does not grow with it, or None."""
    if stream not in plan.streams():
        raise Unknown(stream)
    rows = terms(plan, slow)
    flat = [worth(plan, row) for row in rows if stream not in row[1]]
    rising = [worth(plan, row) - plan[stream][0] for row in rows if stream in row[1]]
    if len(flat) == 0:
        return None
    least = least_own_of(plan, stream)
    return max(least, min(flat) - min(rising)) if len(rising) > 0 else least


def raised(plan, slow):
    """Return the Plan with the least greater credits of the shared pools with which no stream can be stopped."""
    check_slow(plan, slow)
    needing = [name for name in plan.shared() if is_read(plan, name) and len(quick_under(plan, [name], slow)) > 0]
    # Each of these gets more than the streams under it can hold, and so bounds none of the others.
    for name in needing:
        rows = [row for row in coverings(plan, name) if not any([other in needing for other in row[1]])]
        plan = plan.with_pool(name, credit=max(plan[name][0], safe_credit(plan, name, rows, slow)))
    return plan


def cover_terms(plan, slow):
    """Return the ascending list of the tuples (constant, names) of all sets of pools that may cover the pipe."""
    threshold = plan[PIPE][1].threshold
    if not is_read(plan, PIPE):
        return [(threshold, ())]
    rows = []
    for _, pools, bare in coverings(plan, PIPE):
        named = [stream for stream in bare if holds_own_credit(plan, stream, slow)]
        others = [held_at(plan, stream, slow) for stream in bare if stream not in named]
        rows.append((threshold + sum(others), tuple(sorted(list(pools) + named))))
    return sorted(set(rows))


def is_beaten(floor, row, floors):
    """Return whether another term is never more than one, whatever the credits are."""
    return any([other != row and low <= floor and is_within(other[1], row[1]) for low, other in floors])


def is_within(names, others):
    """Return whether all names are among others."""
    return all([name in others for name in names])


def floor_of(plan, row):
    """Return what a term is worth with the least credits."""
    constant, names = row
    streams = plan.streams()
    return constant + sum([least_own_of(plan, name) if name in streams else 1 for name in names])


def worth(plan, row):
    """Return what a term is worth with the credits of a plan."""
    constant, names = row
    return constant + sum([plan[name][0] for name in names])


def least_own_of(plan, stream):
    """Return the least own credit that a stream may have."""
    return least_own(plan[stream][1], plan.most(stream))
