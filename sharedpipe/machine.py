"""Machines: runs that are done step by step."""

from sharedpipe.errors import NoStep, Nothing, Unready
from sharedpipe.lines import line_of, opened_lines
from sharedpipe.moves import is_ready, line_behind, lines_behind, pools_behind
from sharedpipe.pools import account_of, opened_pools
from sharedpipe.steps import is_step_of


class Machine:
    """A run of a plan, and where it leaves the pools and the streams."""

    # The dicts of pools and of lines are never changed: a step puts others in their place,
    # and _past has those that stood there ahead of each step.

    def __init__(self, plan):
        self._plan = plan
        self._pools = opened_pools(plan)
        self._lines = opened_lines(plan)
        self._steps = []
        self._past = []

    def __len__(self):
        return len(self._steps)

    def __eq__(self, other):
        return isinstance(other, Machine) and self._plan == other._plan and self._steps == other._steps

    def step(self, step):
        """Do a step, any value; raise NoStep, Unready or NoCredit if it cannot be done."""
        if not is_step_of(self._plan, step):
            raise NoStep()
        stream = step[1]
        line = self._lines[stream]
        if not is_ready(self._plan, line, step):
            raise Unready(stream)
        pools = pools_behind(self._plan, self._pools, line, step)
        lines = lines_behind(self._plan, self._lines, stream, line_behind(line, step))
        self._past.append((self._pools, self._lines))
        self._steps.append(step)
        self._pools = pools
        self._lines = lines

    def back(self):
        """Take the last step back and return it."""
        if len(self._steps) == 0:
            raise Nothing()
        self._pools, self._lines = self._past.pop()
        return self._steps.pop()

    def left_of(self, name):
        """Return the credit that a pool has left."""
        return account_of(self._pools, name).left

    def unpassed_of(self, name):
        """Return how many letters were sent and have not passed a pool."""
        return account_of(self._pools, name).unpassed

    def withheld_of(self, name):
        """Return how much a pool withholds."""
        return account_of(self._pools, name).withheld

    def lying(self, stream):
        """Return the list of what is unread at a stream, in order."""
        return line_of(self._lines, stream).lying()

    def hand(self, stream):
        """Return the tuple (size, sent, waits) of the message in hand of a stream, or None."""
        return line_of(self._lines, stream).hand()

    def readable(self, stream):
        """Return how many letters, or messages, can be read at a stream."""
        return line_of(self._lines, stream).readable()

    def counts(self, stream):
        """Return the tuple of the letters sent, the letters read, and the messages sent to their ends."""
        return line_of(self._lines, stream).counts()

    def sent(self):
        """Return how many letters were sent in all."""
        return sum([line.counts()[0] for line in self._lines.values()])

    def steps(self):
        """Return the list of the steps done."""
        return list(self._steps)

    def plan(self):
        """Return the Plan."""
        return self._plan

    def copied(self):
        """Return a Machine that stands where this one does, and goes on by itself."""
        machine = Machine(self._plan)
        machine._pools = self._pools
        machine._lines = self._lines
        machine._steps = list(self._steps)
        machine._past = list(self._past)
        return machine
