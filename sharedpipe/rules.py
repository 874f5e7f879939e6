"""Rules: how much of an amount a pool gives back."""

from sharedpipe.errors import TooMany, Wrong
from sharedpipe.kinds import is_number
from sharedpipe.trees import MOST_LEAVES, given, is_by, is_tree, least_apart, starts_of, threshold_of


class Rule:
    """A rule, made of its tree; it never changes."""

    def __init__(self, tree):
        if not is_tree(tree):
            raise Wrong(0)
        self._tree = tree

    def __call__(self, amount):
        """Return how much of an amount is given back."""
        return given(self._tree, amount)

    def rest(self, amount):
        """Return what is left of an amount when the rule has given of it."""
        return amount - given(self._tree, amount)

    @property
    def threshold(self):
        """The least amount of which the rule gives something."""
        return threshold_of(self._tree)

    def tree(self):
        """Return the tree of the rule."""
        return self._tree

    def __or__(self, other):
        return joined("or", self._tree, other._tree)

    def __and__(self, other):
        return joined("and", self._tree, other._tree)

    def __eq__(self, other):
        if not isinstance(other, Rule):
            return False
        return self._tree == other._tree or least_apart(self._tree, other._tree) is None


def joined(word, one, other):
    """Return the Rule of two trees that a word joins."""
    if len(starts_of(one)) + len(starts_of(other)) > MOST_LEAVES:
        raise TooMany(MOST_LEAVES)
    return Rule((word, one, other))


def at_least(least, by=1):
    """Return the Rule that gives, from least on, the greatest multiple of by."""
    if not is_number(1, least):
        raise Wrong(0)
    if not is_by(by):
        raise Wrong(1)
    return Rule(("at", least, by))
