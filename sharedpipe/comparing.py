"""Two Rules compared for all amounts."""

from sharedpipe.trees import least_above, least_apart


def apart(one, other):
    """Return the least number of which two Rules give unlike amounts, or None."""
    return least_apart(one.tree(), other.tree())


def above(one, other):
    """Return the least number of which one Rule gives more than the other, or None."""
    return least_above(one.tree(), other.tree())
