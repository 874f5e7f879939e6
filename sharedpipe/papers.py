"""Papers: runs that stop a stream, and covers that show that there is none."""

from sharedpipe.bounds import is_read
from sharedpipe.covers import cover, cover_sum, is_cover
from sharedpipe.errors import Broken
from sharedpipe.fills import fill
from sharedpipe.fullness import stopped
from sharedpipe.runs import played
from sharedpipe.slow import check_quick
from sharedpipe.stops import can_fill, can_stop


def stop_run(plan, stream, slow):
    """Return a run with the fewest letters behind which a stream is stopped, a list, or None."""
    check_quick(plan, stream, slow)
    full = [(plan[name][0], name) for name in plan.over(stream)[1:] if can_fill(plan, name, slow)]
    if len(full) == 0:
        return None
    credit, name = min(full)
    numbers = cut_down(fill(plan, name, slow), credit)
    return passing_steps(plan, stream, credit - sum(list(numbers.values()))) + filling_steps(plan, numbers, slow)


def is_stop_run(plan, stream, slow, thing):
    """Return whether thing, any value, is a run of a plan behind which a stream is stopped."""
    check_quick(plan, stream, slow)
    try:
        machine = played(plan, thing)
    except Broken:
        return False
    return stream in stopped(machine, slow)


def safe_paper(plan, stream, slow):
    """Return a dict that shows that a stream cannot be stopped, or None if it can be."""
    if can_stop(plan, stream, slow):
        return None
    return {name: cover(plan, name, slow) for name in told_pools(plan, stream)}


def is_safe_paper(plan, stream, slow, thing):
    """Return whether thing, any value, is a dict that shows that a stream cannot be stopped."""
    check_quick(plan, stream, slow)
    names = told_pools(plan, stream)
    if not isinstance(thing, dict) or len(thing) != len(names):
        return False
    return all([name in thing and is_safe(plan, name, slow, thing[name]) for name in names])


def told_pools(plan, stream):
    """Return the ascending list of the shared pools over a stream of which a paper tells."""
    return sorted([name for name in plan.over(stream)[1:] if is_read(plan, name)])


def is_safe(plan, name, slow, thing):
    """Return whether thing, any value, is a cover that shows that a pool cannot be filled."""
    if not is_cover(plan, name, slow, thing):
        return False
    credit, rule, _ = plan[name]
    return cover_sum(plan, name, slow, thing) <= credit - rule.threshold


def cut_down(numbers, most):
    """Return a dict of numbers, some of them lowered until they are at most so many together."""
    lowered = {}
    for stream, many in numbers.items():
        lowered[stream] = min(many, most)
        most = most - lowered[stream]
    return lowered


def passing_steps(plan, stream, many):
    """Return the steps by which so many letters are withheld at the pools over a stream that is not slow."""
    # What its own pool withholds must not be in the way of what a stream with a guide holds. The
    # guide lies under the same shared pools, and has room for what it withholds and holds.
    guide = plan.guide(stream)
    return [("pass", stream if guide is None else guide, 1, many)] if many > 0 else []


def filling_steps(plan, numbers, slow):
    """Return the steps by which each stream holds a number of letters, where nothing is sent by any of them."""
    steps = []
    for stream, many in numbers.items():
        if many == 0:
            continue
        if stream in slow or plan.guide(stream) is not None:
            steps.append(("put", stream, 1, many, stream not in slow))
        else:
            steps.append(("begin", stream, plan.most(stream), False))
            steps.append(("send", stream, 1, many))
    return steps
