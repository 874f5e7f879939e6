"""The kinds of plain values that the package takes."""

LONGEST_NAME = 8
FIRST_SIGN = 32
LAST_SIGN = 126
# The percent sign, the one sign between these that letters may not have.
BARRED_SIGN = 37


def is_integer(thing):
    """Return whether thing, any value, is an integer and no truth."""
    return isinstance(thing, int) and not isinstance(thing, bool)


def is_number(least, thing):
    """Return whether thing, any value, is an integer from least on."""
    return is_integer(thing) and thing >= least


def is_name(thing):
    """Return whether thing, any value, is a string of one to eight letters a to z."""
    if not isinstance(thing, str) or not 1 <= len(thing) <= LONGEST_NAME:
        return False
    return all(["a" <= sign <= "z" for sign in thing])


def is_letters(thing):
    """Return whether thing, any value, is a string of one or more signs that messages may have."""
    if not isinstance(thing, str) or len(thing) == 0:
        return False
    return all([FIRST_SIGN <= ord(sign) <= LAST_SIGN and ord(sign) != BARRED_SIGN for sign in thing])


def is_moment(thing):
    """Return whether thing, any value, is the moment of a pool."""
    return isinstance(thing, str) and thing in ("come", "read")
