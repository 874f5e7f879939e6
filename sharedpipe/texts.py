"""Texts of numbers, names, moments and rules, which stand as words in the texts of other things."""

from sharedpipe.errors import NoText
from sharedpipe.kinds import is_moment, is_name
from sharedpipe.rules import Rule
from sharedpipe.trees import MOST_BY, MOST_LEAVES

MOST_DIGITS = 39
# What stands for None, and for nothing listed.
NONE = "-"
JOINED = {"|": "or", "&": "and"}
SIGNS = {"or": "|", "and": "&"}


def shown(thing):
    """Return the text of a number, a name, a moment, a Rule, or None."""
    if thing is None:
        return NONE
    if isinstance(thing, Rule):
        return shown_tree(thing.tree())
    return str(thing)


def shown_tree(tree):
    """Return the text of the tree of a rule."""
    word, one, other = tree
    if word == "at":
        return f"{one}/{other}" if other > 1 else str(one)
    return f"({shown_tree(one)}{SIGNS[word]}{shown_tree(other)})"


def listed(names):
    """Return the text of names that are listed."""
    return ",".join(names) if len(names) > 0 else NONE


def read_word(kind, word):
    """Return the thing of a kind that has this word as its text; raise NoText."""
    if kind == "name" and is_name(word):
        return word
    if kind == "moment" and is_moment(word):
        return word
    if kind == "number" and is_number_text(word):
        return int(word)
    if kind == "rule":
        return read_whole_rule(word)
    raise NoText()


def read_perhaps(kind, word):
    """Return the thing of a kind, or None, that has this word as its text; raise NoText."""
    return None if word == NONE else read_word(kind, word)


def is_number_text(text):
    """Return whether a string is the text of a number."""
    if not 1 <= len(text) <= MOST_DIGITS or text[0] == "0":
        return False
    return all(["0" <= sign <= "9" for sign in text])


def read_whole_rule(text):
    """Return the Rule that has this text, a string; raise NoText."""
    # Each pair of parentheses has one rule more in it: with too many the text is left early.
    if text.count("(") >= MOST_LEAVES:
        raise NoText()
    tree, end = tree_at(text, 0)
    if end < len(text):
        raise NoText()
    return Rule(tree)


def tree_at(text, at):
    """Return the tree that stands at a place of a text, and the place behind it; raise NoText."""
    if not text.startswith("(", at):
        return leaf_at(text, at)
    one, at = tree_at(text, at + 1)
    sign = text[at:at + 1]
    if sign not in JOINED:
        raise NoText()
    other, at = tree_at(text, at + 1)
    if not text.startswith(")", at):
        raise NoText()
    return ((JOINED[sign], one, other), at + 1)


def leaf_at(text, at):
    """Return the tree without others in it that stands at a place of a text, and the place behind it; raise NoText."""
    end = end_of_digits(text, at)
    least = read_word("number", text[at:end])
    if not text.startswith("/", end):
        return (("at", least, 1), end)
    start, end = end + 1, end_of_digits(text, end + 1)
    by = read_word("number", text[start:end])
    if not 1 < by <= MOST_BY:
        raise NoText()
    return (("at", least, by), end)


def end_of_digits(text, at):
    """Return the place behind the digits that stand at a place of a text."""
    while at < len(text) and "0" <= text[at] <= "9":
        at = at + 1
    return at
