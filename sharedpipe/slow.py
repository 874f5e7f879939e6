"""Slow streams, and shared pools: what functions that ask for them check."""

from sharedpipe.errors import BadSlow, Unknown


def check_slow(plan, slow):
    """Raise BadSlow if slow, any value, is no slow set of a plan."""
    if not isinstance(slow, (list, tuple)):
        raise BadSlow()
    streams = plan.streams()
    guides = plan.guides()
    if not all([name in streams and name not in guides for name in slow]):
        raise BadSlow()
    if len(set(slow)) < len(slow) or len(slow) == len(streams):
        raise BadSlow()


def check_shared(plan, name):
    """Raise Unknown if name, any value, is not that of a shared pool."""
    if name not in plan.shared():
        raise Unknown(name)
