"""Covers: pools and streams that bound what the streams under a shared pool can hold together."""

from sharedpipe.bounds import bounding, check_read, coverings, held, least_cover
from sharedpipe.kinds import is_name


def cover_sum(plan, name, slow, cover):
    """Return the sum of the credits of the pools of a cover and of what its streams can hold."""
    check_read(plan, name, slow)
    pools, streams = cover
    can_hold = held(plan, name, slow)
    return sum([plan[other][0] for other in pools]) + sum([can_hold[stream] for stream in streams])


def cover(plan, name, slow):
    """Return a cover with the least sum."""
    check_read(plan, name, slow)
    _, pools, streams = least_cover(coverings(plan, name), held(plan, name, slow))
    return (pools, streams)


def is_cover(plan, name, slow, thing):
    """Return whether thing, any value, is a cover, of any sum."""
    check_read(plan, name, slow)
    if not isinstance(thing, tuple) or len(thing) != 2:
        return False
    pools, streams = thing
    bounds = bounding(plan, name)
    can_hold = held(plan, name, slow)
    if not is_part_of(pools, bounds) or not is_part_of(streams, can_hold):
        return False
    covered = list(streams) + [stream for other in pools for stream in bounds[other][1]]
    return all([many == 0 or stream in covered for stream, many in can_hold.items()])


def is_part_of(thing, table):
    """Return whether thing, any value, is an ascending tuple of different keys of a dict."""
    if not isinstance(thing, tuple) or not all([is_name(name) and name in table for name in thing]):
        return False
    return list(thing) == sorted(set(thing))
