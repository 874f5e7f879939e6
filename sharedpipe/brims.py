"""Brims: which shared pools of a plan can be filled until they stand full."""

from sharedpipe.bounds import coverings, held, is_read, least_cover
from sharedpipe.slow import quick_under


def brims(plan, names):
    """Return the dict from those of some pools that letters pass when they are read to what coverings returns."""
    return {name: coverings(plan, name) for name in names if is_read(plan, name)}


def fillable(plan, table, slow):
    """Return the list of the pools of a table, of brims, that can be filled."""
    return [name for name, rows in table.items() if is_fillable(plan, name, rows, slow)]


def is_fillable(plan, name, rows, slow):
    """Return whether a pool, with what coverings returns, can be filled and is over a stream that is not slow."""
    if len(quick_under(plan, [name], slow)) == 0:
        return False
    credit, _, _ = plan[name]
    return credit < safe_credit(plan, name, rows, slow)


def safe_credit(plan, name, rows, slow):
    """Return the least credit with which a pool cannot be filled, from what coverings returns."""
    _, rule, _ = plan[name]
    return rule.threshold + least_cover(rows, held(plan, name, slow))[0]
