"""Plans: a pipe, its groups and its streams."""

from sharedpipe.checks import AROUND, GUIDE, HOUSE, KIND, MOST, PIPE, check_parts
from sharedpipe.errors import Unknown
from sharedpipe.kinds import is_name


class Plan:
    """The pools of a pipe and how its streams lie in them; it never changes."""

    def __init__(self, pipe, houses, kinds, streams):
        check_parts(pipe, houses, kinds, streams)
        self._pipe = tuple(pipe)
        self._houses = ordered(houses)
        self._kinds = ordered(kinds)
        self._streams = ordered(streams)
        self._pools = pools_of(self._pipe, self._houses, self._kinds, self._streams)

    def __eq__(self, other):
        return isinstance(other, Plan) and self.parts() == other.parts()

    def __contains__(self, name):
        return is_name(name) and name in self._pools

    def __getitem__(self, name):
        if name not in self:
            raise Unknown(name)
        return self._pools[name]

    def __iter__(self):
        raise TypeError("a Plan is not iterated over")

    def streams(self):
        """Return the ascending list of the names of the streams."""
        return list(self._streams)

    def houses(self):
        """Return the ascending list of the names of the houses."""
        return list(self._houses)

    def kinds(self):
        """Return the ascending list of the names of the kinds."""
        return list(self._kinds)

    def shared(self):
        """Return the ascending list of the names of the shared pools."""
        return [name for name in self._pools if name not in self._streams]

    def over(self, stream):
        """Return the list of the names of the pools over a stream, its own first and the pipe last."""
        row = self._row(stream)
        return [stream] + outward(row[HOUSE], self._houses) + outward(row[KIND], self._kinds) + [PIPE]

    def under(self, name):
        """Return the ascending list of the streams under a pool."""
        if name not in self:
            raise Unknown(name)
        return [stream for stream in self._streams if name in self.over(stream)]

    def most(self, stream):
        """Return the most of a stream, or None."""
        return self._row(stream)[MOST]

    def guide(self, stream):
        """Return the guide of a stream, or None."""
        return self._row(stream)[GUIDE]

    def guides(self):
        """Return the ascending list of the streams that are guides."""
        return sorted({row[GUIDE] for row in self._streams.values() if row[GUIDE] is not None})

    def parts(self):
        """Return the tuple of what a Plan is made of."""
        return (self._pipe, dict(self._houses), dict(self._kinds), dict(self._streams))

    def with_pool(self, name, *, credit=None, rule=None, moment=None):
        """Return the Plan in which a pool has another credit, rule or moment."""
        old_credit, old_rule, old_moment = self[name]
        credit = old_credit if credit is None else credit
        rule = old_rule if rule is None else rule
        moment = old_moment if moment is None else moment
        pipe, houses, kinds, streams = self.parts()
        if name in houses:
            houses[name] = (credit, rule, moment) + houses[name][AROUND:]
        elif name in kinds:
            kinds[name] = (credit, rule, moment) + kinds[name][AROUND:]
        elif name in streams:
            streams[name] = (credit, rule) + streams[name][MOST:]
        else:
            pipe = (credit, rule, moment)
        return Plan(pipe, houses, kinds, streams)

    def renamed(self, names):
        """Return the Plan in which streams and groups have the names that a dict has for them."""
        houses = {names[name]: renamed_row(row, AROUND, names) for name, row in self._houses.items()}
        kinds = {names[name]: renamed_row(row, AROUND, names) for name, row in self._kinds.items()}
        streams = {names[name]: renamed_row(row, HOUSE, names) for name, row in self._streams.items()}
        return Plan(self._pipe, houses, kinds, streams)

    def _row(self, stream):
        """Return what a stream is made of."""
        if not is_name(stream) or stream not in self._streams:
            raise Unknown(stream)
        return self._streams[stream]


def ordered(table):
    """Return a copy of a dict of tuples in which the keys ascend."""
    return {name: tuple(table[name]) for name in sorted(table)}


def pools_of(pipe, houses, kinds, streams):
    """Return the dict from the names of all pools, ascending, to their credits, rules and moments."""
    pools = {PIPE: pipe}
    for groups in (houses, kinds):
        for name, row in groups.items():
            pools[name] = row[:AROUND]
    for name, row in streams.items():
        pools[name] = row[:MOST] + ("read",)
    return ordered(pools)


def outward(name, groups):
    """Return the list of the groups in which a thing lies, the inner ones first, name being the first or None."""
    names = []
    while name is not None:
        names.append(name)
        name = groups[name][AROUND]
    return names


def renamed_row(row, start, names):
    """Return a tuple in which all names from a place on have the names that a dict has for them."""
    return row[:start] + tuple([None if name is None else names[name] for name in row[start:]])
