"""What bounds the letters that streams can hold under a shared pool: other pools, and the streams themselves."""

from sharedpipe.errors import Unknown
from sharedpipe.slow import check_slow


def is_read(plan, name):
    """Return whether letters pass a pool when they are read."""
    return plan[name][2] == "read"


def check_read(plan, name, slow):
    """Raise Unknown if name, any value, is no shared pool that letters pass when they are read, then BadSlow."""
    if name not in plan.shared() or not is_read(plan, name):
        raise Unknown(name)
    check_slow(plan, slow)


def held(plan, name, slow):
    """Return the dict from the streams under a pool, ascending, to what each can hold by itself."""
    return {stream: held_at(plan, stream, slow) for stream in plan.under(name)}


def held_at(plan, stream, slow):
    """Return how many letters a stream can hold by itself."""
    if holds_own_credit(plan, stream, slow):
        return plan[stream][0]
    most = plan.most(stream)
    # A message that has not come to its end cannot be read.
    return most - 1 if most is not None else 0


def holds_own_credit(plan, stream, slow):
    """Return whether a stream can hold as many letters as its own credit."""
    return stream in slow or plan.guide(stream) is not None


def bounding(plan, name):
    """Return the dict from the other shared pools with the moment "read" to tuples (credit, streams under it)."""
    others = [other for other in plan.shared() if other != name and is_read(plan, other)]
    return {other: (plan[other][0], plan.under(other)) for other in others}


def coverings(plan, name):
    """Return the list of tuples (credit, pools, bare), one for each set of other pools that may bound a pool.

    The credit is that of the pools together; bare are the streams under the pool that none of them is over.
    """
    under = tuple(plan.under(name))
    rows = [(0, (), under)]
    for other, (credit, streams) in bounding(plan, name).items():
        # A pool over none of these streams covers nothing.
        if any([stream in under for stream in streams]):
            further = [(total + credit, pools + (other,), tuple([stream for stream in bare if stream not in streams]))
                       for total, pools, bare in rows]
            rows = rows + further
    return rows


def least_cover(rows, can_hold):
    """Return the tuple (sum, pools, streams) of a cover with the least sum, from what coverings and held return."""
    best = None
    for credit, pools, bare in rows:
        total = credit + sum([can_hold[stream] for stream in bare])
        if best is None or total < best[0]:
            best = (total, pools, bare)
    total, pools, bare = best
    return (total, pools, tuple([stream for stream in bare if can_hold[stream] > 0]))


def parts_of(names):
    """Return the list of the tuples of some of these names, each in their order."""
    found = [()]
    for name in names:
        found = found + [part + (name,) for part in found]
    return found
