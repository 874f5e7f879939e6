"""What the parts of a plan have to be."""

from sharedpipe.errors import BadGuide, Narrow, Ring, Twice, Unknown, Wrong
from sharedpipe.kinds import is_moment, is_name, is_number
from sharedpipe.rules import Rule

PIPE = "pipe"
MOST_GROUPS = 6
MOST_STREAMS = 6
# Where these stand in the tuple of a group, and in that of a stream.
AROUND = 3
MOST = 2
HOUSE = 3
KIND = 4
GUIDE = 5


def check_parts(pipe, houses, kinds, streams):
    """Raise the error that is due if these are not the parts of a plan."""
    check_kinds(pipe, houses, kinds, streams)
    check_names(houses, kinds, streams)
    check_rings(houses, kinds)
    check_guides(streams)
    check_credits(pipe, houses, kinds, streams)


def check_kinds(pipe, houses, kinds, streams):
    """Raise Wrong for the first part that is not as described."""
    if not is_pool(pipe):
        raise Wrong(0)
    if not are_groups(houses):
        raise Wrong(1)
    if not are_groups(kinds) or len(houses) + len(kinds) > MOST_GROUPS:
        raise Wrong(2)
    if not are_streams(streams):
        raise Wrong(3)


def is_pool(thing):
    """Return whether thing, any value, is a tuple (credit, rule, moment)."""
    if not isinstance(thing, tuple) or len(thing) != 3:
        return False
    credit, rule, moment = thing
    return is_number(1, credit) and isinstance(rule, Rule) and is_moment(moment)


def are_groups(thing):
    """Return whether thing, any value, is a dict from names to groups."""
    if not isinstance(thing, dict):
        return False
    return all([is_name(name) and is_group(group) for name, group in thing.items()])


def is_group(thing):
    """Return whether thing, any value, is a tuple (credit, rule, moment, around)."""
    if not isinstance(thing, tuple) or len(thing) != 4:
        return False
    return is_pool(thing[:AROUND]) and is_name_or_none(thing[AROUND])


def are_streams(thing):
    """Return whether thing, any value, is a dict from names to streams, not too few or too many."""
    if not isinstance(thing, dict) or not 1 <= len(thing) <= MOST_STREAMS:
        return False
    return all([is_name(name) and is_stream(stream) for name, stream in thing.items()])


def is_stream(thing):
    """Return whether thing, any value, is a tuple (credit, rule, most, house, kind, guide)."""
    if not isinstance(thing, tuple) or len(thing) != 6:
        return False
    credit, rule, most, house, kind, guide = thing
    if not is_number(1, credit) or not isinstance(rule, Rule):
        return False
    if most is not None and not is_number(1, most):
        return False
    return is_name_or_none(house) and is_name_or_none(kind) and is_name_or_none(guide)


def is_name_or_none(thing):
    """Return whether thing, any value, is a name or None."""
    return thing is None or is_name(thing)


def check_names(houses, kinds, streams):
    """Raise Twice or Unknown if a name stands for two things or for none."""
    names = sorted([PIPE] + list(houses) + list(kinds) + list(streams))
    for at in range(len(names) - 1):
        if names[at] == names[at + 1]:
            raise Twice(names[at])
    missing = missing_names(houses, houses, AROUND) + missing_names(kinds, kinds, AROUND)
    missing = missing + missing_names(houses, streams, HOUSE) + missing_names(kinds, streams, KIND)
    missing = missing + missing_names(streams, streams, GUIDE)
    if len(missing) > 0:
        raise Unknown(min(missing))


def missing_names(table, rows, at):
    """Return the list of the names that stand in rows at this place and are not in a table."""
    return [row[at] for row in rows.values() if row[at] is not None and row[at] not in table]


def check_rings(houses, kinds):
    """Raise Ring if a group lies in itself."""
    found = [name for name in houses if is_in_itself(name, houses)]
    found = found + [name for name in kinds if is_in_itself(name, kinds)]
    if len(found) > 0:
        raise Ring(min(found))


def is_in_itself(name, groups):
    """Return whether a group lies, by others or at once, in itself."""
    around = groups[name][AROUND]
    for _ in range(len(groups)):
        if around is None:
            return False
        if around == name:
            return True
        around = groups[around][AROUND]
    return False


def check_guides(streams):
    """Raise BadGuide if a stream has a guide that cannot be its guide."""
    found = [name for name in streams if has_bad_guide(name, streams)]
    if len(found) > 0:
        raise BadGuide(min(found))


def has_bad_guide(name, streams):
    """Return whether the guide of a stream is itself, has a guide, or lies elsewhere."""
    row = streams[name]
    if row[GUIDE] is None:
        return False
    # A stream that is its own guide has a guide, too.
    guide = streams[row[GUIDE]]
    return guide[GUIDE] is not None or guide[HOUSE] != row[HOUSE] or guide[KIND] != row[KIND]


def check_credits(pipe, houses, kinds, streams):
    """Raise Narrow if a pool could be too small for ever."""
    found = [PIPE] if is_narrow(pipe) else []
    for groups in (houses, kinds):
        found = found + [name for name, group in groups.items() if is_narrow(group[:AROUND])]
    found = found + [name for name, stream in streams.items() if is_narrow_stream(stream)]
    if len(found) > 0:
        raise Narrow(min(found))


def is_narrow(pool):
    """Return whether a shared pool could be too small for ever."""
    credit, rule, moment = pool
    return moment == "come" and credit < rule.threshold


def is_narrow_stream(stream):
    """Return whether the own pool of a stream could be too small for ever."""
    credit, rule, most, _, _, _ = stream
    return credit < least_own(rule, most)


def least_own(rule, most):
    """Return the least own credit of a stream with such a rule and such a most."""
    # Letters of a message that has not come as a whole cannot be read.
    return rule.threshold + (most - 1 if most is not None else 0)
