"""Fills: how many letters the streams under a shared pool can hold together."""

from sharedpipe.bounds import bounding, check_read, coverings, held, least_cover
from sharedpipe.kinds import is_number


def holds(plan, name, slow):
    """Return the dict from the streams under a pool, ascending, to what each can hold by itself."""
    check_read(plan, name, slow)
    return held(plan, name, slow)


def filled(plan, name, slow):
    """Return the greatest sum of a fill, which is the least sum of a cover."""
    check_read(plan, name, slow)
    return least_cover(coverings(plan, name), held(plan, name, slow))[0]


def fill(plan, name, slow):
    """Return a fill with the greatest sum, keys ascending."""
    check_read(plan, name, slow)
    rows = coverings(plan, name)
    numbers = held(plan, name, slow)
    greatest = least_cover(rows, numbers)[0]
    # Each stream in its turn is lowered as far as the greatest sum stays. When this is done no
    # number can be less, and a fill with this sum, as none of it is greater, has them all.
    for stream in plan.under(name):
        without = least_cover(rows, with_number(numbers, stream, 0))[0]
        numbers = with_number(numbers, stream, greatest - without)
    return numbers


def is_fill(plan, name, slow, thing):
    """Return whether thing, any value, is a fill, of any sum."""
    can_hold = holds(plan, name, slow)
    if not isinstance(thing, dict) or len(thing) != len(can_hold):
        return False
    for stream, many in can_hold.items():
        if stream not in thing or not is_number(0, thing[stream]) or thing[stream] > many:
            return False
    for credit, streams in bounding(plan, name).values():
        if sum([thing[stream] for stream in streams if stream in can_hold]) > credit:
            return False
    return True


def with_number(numbers, stream, number):
    """Return a copy of a dict in which a stream has another number."""
    changed = dict(numbers)
    changed[stream] = number
    return changed
