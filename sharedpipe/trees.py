"""The trees of rules: what a tree gives of an amount, and where two trees part."""

from sharedpipe.kinds import is_number

MOST_LEAVES = 6
MOST_BY = 6
# The least number that is a multiple of each number from 1 to MOST_BY.
PERIOD = 60


def has_word(thing, words):
    """Return whether thing, any value, is a tuple of three with one of these words at first."""
    if not isinstance(thing, tuple) or len(thing) != 3:
        return False
    return isinstance(thing[0], str) and thing[0] in words


def is_leaf(thing):
    """Return whether thing, any value, is the tree of one at_least."""
    return has_word(thing, ("at",)) and is_number(1, thing[1]) and is_by(thing[2])


def is_by(thing):
    """Return whether thing, any value, is a number of which a rule gives multiples."""
    return is_number(1, thing) and thing <= MOST_BY


def is_tree(thing):
    """Return whether thing, any value, is a tree with at most six leaves."""
    waiting = [thing]
    leaves = 0
    while len(waiting) > 0:
        part = waiting.pop()
        if is_leaf(part):
            leaves = leaves + 1
        elif has_word(part, ("or", "and")):
            waiting.append(part[1])
            waiting.append(part[2])
        else:
            return False
        # Whatever waits has a leaf or is no tree, so that a deep value is left early.
        if leaves + len(waiting) > MOST_LEAVES:
            return False
    return True


def given(tree, amount):
    """Return how much of an amount is given back."""
    word, one, other = tree
    if word == "at":
        return amount - amount % other if amount >= one else 0
    if word == "or":
        return max(given(one, amount), given(other, amount))
    return min(given(one, amount), given(other, amount))


def threshold_of(tree):
    """Return the least amount of which a tree gives something."""
    word, one, other = tree
    if word == "at":
        return max(one, other)
    if word == "or":
        return min(threshold_of(one), threshold_of(other))
    return max(threshold_of(one), threshold_of(other))


def leaves_of(tree):
    """Return the list of the leaves of a tree."""
    word, one, other = tree
    if word == "at":
        return [tree]
    return leaves_of(one) + leaves_of(other)


def starts_of(tree):
    """Return the list of the amounts from which on the leaves of a tree count."""
    return [least for _, least, _ in leaves_of(tree)]


def telling(one, other):
    """Return the ascending list of the amounts at which two trees part first, if they do."""
    # Between two starts a tree gives nothing at all, or grows by PERIOD with each PERIOD
    # of the amount. So two trees that part there do so within the first PERIOD of it.
    starts = [0] + starts_of(one) + starts_of(other)
    return sorted({start + step for start in starts for step in range(PERIOD)})


def least_apart(one, other):
    """Return the least amount of which two trees give unlike amounts, or None."""
    for amount in telling(one, other):
        if given(one, amount) != given(other, amount):
            return amount
    return None


def least_above(one, other):
    """Return the least amount of which one tree gives more than the other, or None."""
    for amount in telling(one, other):
        if given(one, amount) > given(other, amount):
            return amount
    return None
