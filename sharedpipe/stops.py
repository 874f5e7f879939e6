"""Which streams slow readers can stop, and with how few letters."""

from sharedpipe.brims import brims, fillable
from sharedpipe.slow import check_quick, check_shared, check_slow, quick_under


def can_fill(plan, name, slow):
    """Return whether a shared pool can be filled, and some stream that is not slow is under it."""
    check_shared(plan, name)
    check_slow(plan, slow)
    return len(fillable(plan, brims(plan, [name]), slow)) > 0


def can_stop(plan, stream, slow):
    """Return whether there is a run behind which a stream is stopped."""
    check_quick(plan, stream, slow)
    return len(fillable(plan, brims(plan, plan.over(stream)[1:]), slow)) > 0


def stopping(plan, slow):
    """Return the ascending list of the streams that can be stopped."""
    check_slow(plan, slow)
    return quick_under(plan, fillable(plan, brims(plan, plan.shared()), slow), slow)


def fewest_letters(plan, stream, slow):
    """Return how many letters a run must send at least to stop a stream, or None."""
    check_quick(plan, stream, slow)
    names = fillable(plan, brims(plan, plan.over(stream)[1:]), slow)
    return min([plan[name][0] for name in names], default=None)
