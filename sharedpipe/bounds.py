"""What bounds the letters that streams can hold under a shared pool: other pools, and the streams themselves."""

from sharedpipe.errors import Unknown
from sharedpipe.slow import check_slow


def check_read(plan, name, slow):
    """Raise Unknown if name, any value, is no shared pool that letters pass when they are read, then BadSlow."""
    if name not in plan.shared() or plan[name][2] != "read":
        raise Unknown(name)
    check_slow(plan, slow)


def held(plan, name, slow):
    """Return the dict from the streams under a pool, ascending, to what each can hold by itself."""
    return {stream: held_at(plan, stream, slow) for stream in plan.under(name)}


def held_at(plan, stream, slow):
    """Return how many letters a stream can hold by itself."""
    if stream in slow or plan.guide(stream) is not None:
        return plan[stream][0]
    most = plan.most(stream)
    # A message that has not come to its end cannot be read.
    return most - 1 if most is not None else 0


def bounding(plan, name):
    """Return the dict from the other shared pools with the moment "read" to tuples (credit, streams under it)."""
    others = [other for other in plan.shared() if other != name and plan[other][2] == "read"]
    return {other: (plan[other][0], plan.under(other)) for other in others}


def least_cover(bounds, can_hold):
    """Return the tuple (sum, pools, streams) of a cover with the least sum, from what bounding and held return."""
    best = None
    for pools in parts_of(list(bounds)):
        covered = [stream for name in pools for stream in bounds[name][1]]
        streams = tuple([stream for stream, many in can_hold.items() if many > 0 and stream not in covered])
        total = sum([bounds[name][0] for name in pools]) + sum([can_hold[stream] for stream in streams])
        if best is None or total < best[0]:
            best = (total, pools, streams)
    return best


def parts_of(names):
    """Return the list of the tuples of some of these names, each in their order."""
    found = [()]
    for name in names:
        found = found + [part + (name,) for part in found]
    return found
