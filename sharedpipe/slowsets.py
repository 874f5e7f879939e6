"""Slow sets: which streams have to be slow for a stream to be stopped."""

from sharedpipe.bounds import parts_of
from sharedpipe.brims import brims, fillable
from sharedpipe.errors import Unknown, Unlike
from sharedpipe.slow import quick_under


def slow_sets(plan, stream):
    """Return the ascending list of the least slow sets by which a stream can be stopped."""
    if stream not in plan.streams():
        raise Unknown(stream)
    table = brims(plan, plan.over(stream)[1:])
    least = []
    for slow in sorted(sets_without(plan, [stream]), key=len):
        if not has_part(slow, least) and len(fillable(plan, table, slow)) > 0:
            least.append(slow)
    return sorted(least)


def borne(plan):
    """Return how many slow streams stop no stream, whichever they are; -1 or None."""
    table = brims(plan, plan.shared())
    sizes = [len(slow) for slow in all_sets(plan) if len(stopped_by(plan, table, slow)) > 0]
    return min(sizes) - 1 if len(sizes) > 0 else None


def parted(plan, other):
    """Return the least tuple (slow, stream) of a stream that can be stopped in just one of two Plans, or None."""
    if plan.streams() != other.streams() or plan.guides() != other.guides():
        raise Unlike()
    table, other_table = brims(plan, plan.shared()), brims(other, other.shared())
    for slow in sorted(all_sets(plan)):
        one, two = stopped_by(plan, table, slow), stopped_by(other, other_table, slow)
        if one != two:
            return (slow, min([stream for stream in one + two if stream not in one or stream not in two]))
    return None


def stopped_by(plan, table, slow):
    """Return the ascending list of the streams that slow streams can stop, from what brims returns of all pools."""
    return quick_under(plan, fillable(plan, table, slow), slow)


def all_sets(plan):
    """Return the list of all slow sets of a plan, ascending tuples."""
    return [slow for slow in sets_without(plan, []) if len(slow) < len(plan.streams())]


def sets_without(plan, barred):
    """Return the list of the ascending tuples of streams that are no guides and not barred."""
    guides = plan.guides()
    return parts_of([stream for stream in plan.streams() if stream not in guides and stream not in barred])


def has_part(names, parts):
    """Return whether all names of one of these parts are among some names."""
    return any([all([name in names for name in part]) for part in parts])
