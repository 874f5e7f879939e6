"""Steps: what they look like, and how many letters they send."""

from sharedpipe.kinds import is_name, is_number

# What stands in a step behind its word and its stream.
FORMS = {
    "begin": ("number", "truth"),
    "send": ("number", "number"),
    "put": ("number", "number", "truth"),
    "read": ("number", "number"),
    "fetch": ("number",),
    "pass": ("number", "number"),
}


def is_step(thing):
    """Return whether thing, any value, is a step of some plan."""
    if not isinstance(thing, tuple) or len(thing) < 2:
        return False
    word, stream = thing[:2]
    if not isinstance(word, str) or word not in FORMS or not is_name(stream):
        return False
    form = FORMS[word]
    if len(thing) != 2 + len(form):
        return False
    return all([is_part(kind, part) for kind, part in zip(form, thing[2:])])


def is_part(kind, thing):
    """Return whether thing, any value, is a part of a step of this kind."""
    if kind == "number":
        return is_number(1, thing)
    return isinstance(thing, bool)


def is_step_of(plan, thing):
    """Return whether thing, any value, is a step of a plan."""
    if not is_step(thing) or thing[1] not in plan.streams():
        return False
    word, stream = thing[:2]
    if word == "read":
        return plan.most(stream) is None
    if word == "fetch":
        return plan.most(stream) is not None
    return True


def letters_of(step):
    """Return how many letters a step sends."""
    if step[0] in ("send", "put", "pass"):
        return step[2] * step[3]
    return 0
