"""Deeds: changes of a plan."""

from sharedpipe.checks import is_group, is_stream
from sharedpipe.errors import Refused
from sharedpipe.kinds import is_moment, is_name, is_number
from sharedpipe.plans import Plan
from sharedpipe.rules import Rule


def is_deed(thing):
    """Return whether thing, any value, is a deed."""
    if not isinstance(thing, tuple) or len(thing) < 2:
        return False
    word, name = thing[:2]
    if not is_name(name):
        return False
    if word == "gone":
        return len(thing) == 2
    if word == "pool":
        return is_change(thing[2:])
    if len(thing) != 3:
        return False
    return is_stream(thing[2]) if word == "stream" else word in ("house", "kind") and is_group(thing[2])


def is_change(thing):
    """Return whether a tuple of any values is (credit, rule, moment), each of them perhaps None."""
    if len(thing) != 3:
        return False
    credit, rule, moment = thing
    if credit is not None and not is_number(1, credit):
        return False
    return (rule is None or isinstance(rule, Rule)) and (moment is None or is_moment(moment))


def plan_behind(plan, deed):
    """Return the Plan behind a deed; raise Refused, or what Plan raises."""
    word, name = deed[:2]
    if word == "pool":
        return changed(plan, deed)
    pipe, houses, kinds, streams = plan.parts()
    if word == "gone":
        if name not in houses and name not in kinds and name not in streams:
            raise Refused(deed)
        return Plan(pipe, without(houses, name), without(kinds, name), without(streams, name))
    if word == "house":
        houses[name] = deed[2]
    elif word == "kind":
        kinds[name] = deed[2]
    else:
        streams[name] = deed[2]
    return Plan(pipe, houses, kinds, streams)


def changed(plan, deed):
    """Return the Plan in which a pool has what a deed tells."""
    _, name, credit, rule, moment = deed
    if name not in plan or (moment is not None and name in plan.streams()):
        raise Refused(deed)
    return plan.with_pool(name, credit=credit, rule=rule, moment=moment)


def without(table, name):
    """Return a copy of a dict without a name."""
    return {other: row for other, row in table.items() if other != name}
