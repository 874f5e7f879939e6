"""Books: plans that deeds change, one after another."""

from sharedpipe.deeds import is_deed, plan_behind
from sharedpipe.errors import Full, NoDeed, NoEntry, Nothing, PipeError
from sharedpipe.kinds import is_number
from sharedpipe.stops import stopping

MOST_DEEDS = 60


class Book:
    """A Plan, the deeds that led to it, and those that were undone."""

    # These three are tuples, and others are put in their place. _plans has the Plan at the
    # beginning and the one behind each deed of _log, _undone tuples (deed, Plan behind it).

    def __init__(self, plan):
        self._plans = (plan,)
        self._log = ()
        self._undone = ()

    def __len__(self):
        return len(self._log)

    def __eq__(self, other):
        return isinstance(other, Book) and self._plans[0] == other._plans[0] and self._log == other._log

    def do(self, deed):
        """Do a deed, any value, and return the ascending list of the streams that can be stopped only now."""
        plan = self._behind(deed)
        before = stopping(self.plan(), [])
        found = [stream for stream in stopping(plan, []) if stream not in before]
        self._plans = self._plans + (plan,)
        self._log = self._log + (deed,)
        self._undone = ()
        return found

    def back(self):
        """Undo the last deed of the log and return it."""
        if len(self._log) == 0:
            raise Nothing()
        deed = self._log[-1]
        self._undone = self._undone + ((deed, self._plans[-1]),)
        self._log = self._log[:-1]
        self._plans = self._plans[:-1]
        return deed

    def again(self):
        """Do the deed that was undone last again and return it."""
        if len(self._undone) == 0:
            raise Nothing()
        deed, plan = self._undone[-1]
        self._undone = self._undone[:-1]
        self._log = self._log + (deed,)
        self._plans = self._plans + (plan,)
        return deed

    def plan(self):
        """Return the Plan."""
        return self._plans[-1]

    def log(self):
        """Return the list of the deeds."""
        return list(self._log)

    def past(self, many):
        """Return the Plan behind the first so many deeds, any value; raise NoEntry."""
        if not is_number(0, many) or many > len(self._log):
            raise NoEntry(many)
        return self._plans[many]

    def tried(self, deed):
        """Return whether do would do a deed, any value."""
        try:
            self._behind(deed)
        except PipeError:
            return False
        return True

    def copied(self):
        """Return a Book that stands where this one does, and goes on by itself."""
        book = Book(self._plans[0])
        book._plans = self._plans
        book._log = self._log
        book._undone = self._undone
        return book

    def tries(self, act):
        """Call act with the Book and return what it returns; behind that the Book is as it was."""
        plans = self._plans
        log = self._log
        undone = self._undone
        try:
            return act(self)
        finally:
            self._plans = plans
            self._log = log
            self._undone = undone

    def _behind(self, deed):
        """Return the Plan behind a deed, any value; raise what do raises."""
        if not is_deed(deed):
            raise NoDeed()
        if len(self._log) == MOST_DEEDS:
            raise Full(MOST_DEEDS)
        return plan_behind(self.plan(), deed)
