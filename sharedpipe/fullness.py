"""Which shared pools of a Machine stand full, and which streams are stopped by that."""

from sharedpipe.slow import check_shared, check_slow


def stands_full(machine, name, slow):
    """Return whether a shared pool stands full for some slow streams."""
    check_shared(machine.plan(), name)
    check_slow(machine.plan(), slow)
    return is_full(machine, name, slow)


def stopped(machine, slow):
    """Return the ascending list of the streams that are stopped."""
    plan = machine.plan()
    check_slow(plan, slow)
    full = [name for name in plan.shared() if is_full(machine, name, slow)]
    return [stream for stream in plan.streams() if stream not in slow and is_under(plan, stream, full)]


def is_full(machine, name, slow):
    """Return whether a shared pool has no credit left and nothing readable under it but at slow streams."""
    if machine.left_of(name) > 0:
        return False
    quick = [stream for stream in machine.plan().under(name) if stream not in slow]
    return all([machine.readable(stream) == 0 for stream in quick])


def is_under(plan, stream, names):
    """Return whether one of these pools is over a stream."""
    return any([name in names for name in plan.over(stream)])
