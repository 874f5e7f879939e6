"""Values that tests share: things of all kinds, and slow but plain ways to work something out."""

from sharedpipe.errors import PipeError
from sharedpipe.rules import Rule, at_least

LONG = 10 ** 38 + 7  # 39 digits


def nested(depth, inside=0, kind=list):
    """Return a value nested so deep."""
    for _ in range(depth):
        inside = kind([inside])
    return inside


def things():
    """Return values of all kinds, none of which is an integer, a name, letters, a rule or a plan."""
    return [
        None, True, False, "", b"", b"abc", (), [], {}, set(), frozenset({1}), object(), int, len, PipeError(),
        (1, 2), [1], {"a": 1}, {1: "a"}, {(1, 2): None}, range(3), slice(1, 2), NotImplemented, ...,
        nested(20), nested(20, kind=tuple), list(range(10000)), tuple(range(10000)), "x\ty" * 3000, "\u00e9",
    ]


def by_hand(tree, amount):
    """Return what a tree gives of an amount, by the words of the document."""
    word, one, other = tree
    if word == "at":
        if amount < one:
            return 0
        while amount - amount // other * other:
            amount -= 1
        return amount
    both = [by_hand(one, amount), by_hand(other, amount)]
    return sorted(both)[1 if word == "or" else 0]


def small_trees(pick, leaves, starts=9):
    """Return a tree with so many leaves, chosen by pick, a random.Random."""
    if leaves == 1:
        return ("at", pick.randint(1, starts), pick.randint(1, 6))
    left = pick.randint(1, leaves - 1)
    one, other = small_trees(pick, left, starts), small_trees(pick, leaves - left, starts)
    return (pick.choice(["or", "and"]), one, other)


def chained(many, word="or"):
    """Return a tree with so many leaves, each in the one before."""
    tree = ("at", 1, 1)
    for start in range(2, many + 1):
        tree = (word, ("at", start, 1), tree)
    return tree


def late():
    """Return the Rule of the document's examples."""
    return at_least(5, 2) & at_least(3)


def raised(test, error, call, *arguments, **words):
    """Return the error of just this class that a call raises."""
    with test.assertRaises(PipeError) as caught:
        call(*arguments, **words)
    test.assertIs(caught.exception.__class__, error)
    return caught.exception


def rule_of(pick, leaves, starts=9):
    """Return a Rule chosen by pick."""
    return Rule(small_trees(pick, leaves, starts))
