"""Slow streams, shared pools and streams that may be stopped: what functions that ask for them check."""

from sharedpipe.errors import BadSlow, IsSlow, Unknown


def check_slow(plan, slow):
    """Raise BadSlow if slow, any value, is no slow set of a plan."""
    if not isinstance(slow, (list, tuple)):
        raise BadSlow()
    streams = plan.streams()
    guides = plan.guides()
    if not all([name in streams and name not in guides for name in slow]):
        raise BadSlow()
    if len(set(slow)) < len(slow) or len(slow) == len(streams):
        raise BadSlow()


def check_shared(plan, name):
    """Raise Unknown if name, any value, is not that of a shared pool."""
    if name not in plan.shared():
        raise Unknown(name)


def check_quick(plan, stream, slow):
    """Raise Unknown if stream, any value, is no stream of a plan, then BadSlow, then IsSlow if it is a slow one."""
    if stream not in plan.streams():
        raise Unknown(stream)
    check_slow(plan, slow)
    if stream in slow:
        raise IsSlow(stream)


def quick_under(plan, names, slow):
    """Return the ascending list of the streams that are not slow and have one of these pools over them."""
    return [stream for stream in plan.streams() if stream not in slow and is_under(plan, stream, names)]


def is_under(plan, stream, names):
    """Return whether one of these pools is over a stream."""
    return any([name in names for name in plan.over(stream)])
