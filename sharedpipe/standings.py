"""Standings: all that matters of the moments of all runs of a plan."""

from sharedpipe.errors import TooMany
from sharedpipe.following import following, hands_of, lefts_of, opening, readable_at
from sharedpipe.kinds import is_number
from sharedpipe.layout import Layout
from sharedpipe.slow import check_shared, check_slow, quick_under


class Standings:
    """The least list of standings that leads nowhere else from the beginning; it never changes."""

    def __init__(self, plan, *, most=1000):
        self._plan = plan
        self._layout = Layout(plan)
        self._table = {standing: True for standing in sorted(reached(self._layout, most))}

    def __len__(self):
        return len(self._table)

    def __contains__(self, row):
        # A truth is equal to a number and stands for none here, so that the form is looked at first.
        return is_standing(self._layout, row) and row in self._table

    def rows(self):
        """Return the ascending list of the standings."""
        return list(self._table)

    def full(self, name, slow):
        """Return the ascending list of the standings in which a shared pool stands full."""
        check_shared(self._plan, name)
        check_slow(self._plan, slow)
        return self._full(name, slow)

    def stopping(self, slow):
        """Return the ascending list of the streams that are stopped in one of the standings."""
        check_slow(self._plan, slow)
        names = [name for name in self._plan.shared() if len(self._full(name, slow)) > 0]
        return quick_under(self._plan, names, slow)

    def _full(self, name, slow):
        """Return what full does."""
        streams = self._plan.streams()
        quick = [streams.index(stream) for stream in quick_under(self._plan, [name], slow)]
        pool = self._layout.names.index(name)
        return [row for row in self._table if is_full(self._layout, row, pool, quick)]


def standing_of(machine):
    """Return the standing of a Machine."""
    plan = machine.plan()
    withheld = [machine.withheld_of(name) for name in sorted(plan.shared() + plan.streams())]
    return (tuple(withheld), tuple([line_of_stream(machine, stream) for stream in plan.streams()]))


def is_closed(plan, thing):
    """Return whether thing, any value, is a list of standings that has the first one and all that they lead to."""
    layout = Layout(plan)
    if not isinstance(thing, list) or not all([is_standing(layout, row) and is_allowed(layout, row) for row in thing]):
        return False
    table = {row: True for row in thing}
    if len(table) < len(thing) or opening(layout) not in table:
        return False
    for row in thing:
        # So many of one stream would be different ones, and none of them this one.
        if not all([behind in table for behind in following(layout, row, len(thing))]):
            return False
    return True


def reached(layout, most):
    """Return the list of the standings to which runs lead; raise TooMany."""
    start = opening(layout)
    found = {start: True}
    waiting = [start]
    while len(waiting) > 0:
        standing = waiting.pop()
        # So many of one stream would be different ones, and none of them this one.
        for behind in following(layout, standing, most):
            if behind not in found:
                if len(found) == most:
                    raise TooMany(most)
                found[behind] = True
                waiting.append(behind)
    return list(found)


def is_full(layout, standing, pool, quick):
    """Return whether a pool has no credit left and nothing is readable at these streams."""
    if lefts_of(layout, standing)[pool] > 0:
        return False
    return all([readable_at(layout, at, standing[1][at]) == 0 for at in quick])


def line_of_stream(machine, stream):
    """Return what a standing tells of a stream of a Machine."""
    lying = machine.lying(stream)
    if machine.plan().most(stream) is None:
        return tuple(lying)
    messages = [(size, waits) for size, many, waits in lying for _ in range(many)]
    hand = machine.hand(stream)
    if hand is None or hand[1] == 0:
        return (tuple(messages), ())
    return (tuple(messages), hand[1:])


def is_standing(layout, thing):
    """Return whether thing, any value, has the form of a standing."""
    if not is_pair(thing):
        return False
    withheld, lines = thing
    if not is_tuple_of(len(layout.names), withheld) or not is_tuple_of(len(layout.mosts), lines):
        return False
    if not all([is_number(0, many) for many in withheld]):
        return False
    return all([is_line(most, line) for most, line in zip(layout.mosts, lines)])


def is_line(most, thing):
    """Return whether thing, any value, has the form of what is unread at a stream with this most."""
    if most is None:
        return are_parts(thing) and not any([one[1] == other[1] for one, other in zip(thing[:-1], thing[1:])])
    if not is_pair(thing) or not isinstance(thing[1], tuple):
        return False
    messages, hand = thing
    if not are_parts(messages) or not all([size <= most for size, _ in messages]):
        return False
    return len(hand) == 0 or (is_part(hand) and hand[0] < most)


def are_parts(thing):
    """Return whether thing, any value, is a tuple of tuples (number, truth)."""
    return isinstance(thing, tuple) and all([is_part(part) for part in thing])


def is_part(thing):
    """Return whether thing, any value, is a tuple of an integer from 1 on and a truth."""
    return is_pair(thing) and is_number(1, thing[0]) and isinstance(thing[1], bool)


def is_pair(thing):
    """Return whether thing, any value, is a tuple of two."""
    return is_tuple_of(2, thing)


def is_tuple_of(many, thing):
    """Return whether thing, any value, is a tuple of so many."""
    return isinstance(thing, tuple) and len(thing) == many


def is_allowed(layout, standing):
    """Return whether a standing has no more in any pool than may be, and nothing waits where nothing can."""
    withheld, lines = standing
    if not all([many < rule.threshold for many, rule in zip(withheld, layout.giving)]):
        return False
    if not all([left >= 0 for left in lefts_of(layout, standing)]):
        return False
    waiting = [waits_in(most, line) for most, line in zip(layout.mosts, lines)]
    return all([guided or not waits for guided, waits in zip(layout.guided, waiting)])


def waits_in(most, line):
    """Return whether something waits of what is unread at a stream with this most."""
    rows = list(line) if most is None else list(line[0]) + hands_of(line[1])
    return any([waits for _, waits in rows])
