"""Which shared pools of a Machine stand full, and which streams are stopped by that."""

from sharedpipe.slow import check_shared, check_slow, quick_under


def stands_full(machine, name, slow):
    """Return whether a shared pool stands full for some slow streams."""
    check_shared(machine.plan(), name)
    check_slow(machine.plan(), slow)
    return is_full(machine, name, slow)


def stopped(machine, slow):
    """Return the ascending list of the streams that are stopped."""
    plan = machine.plan()
    check_slow(plan, slow)
    full = [name for name in plan.shared() if is_full(machine, name, slow)]
    return quick_under(plan, full, slow)


def is_full(machine, name, slow):
    """Return whether a shared pool has no credit left and nothing readable under it but at slow streams."""
    if machine.left_of(name) > 0:
        return False
    return all([machine.readable(stream) == 0 for stream in quick_under(machine.plan(), [name], slow)])
