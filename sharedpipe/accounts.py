"""Accounts: pools at work."""

from sharedpipe.errors import NotPassed, Overdrawn, Wrong
from sharedpipe.kinds import is_number
from sharedpipe.repeating import repeated
from sharedpipe.rules import Rule


class Account:
    """A credit, of which letters take and to which they give back by a rule."""

    # What is left is not kept: it is the credit less what is unpassed and withheld.

    def __init__(self, credit, rule):
        if not is_number(1, credit):
            raise Wrong(0)
        if not isinstance(rule, Rule):
            raise Wrong(1)
        self._credit = credit
        self._rule = rule
        self._unpassed = 0
        self._withheld = 0

    @property
    def credit(self):
        """The credit in all."""
        return self._credit

    @property
    def rule(self):
        """The rule by which letters that pass give back."""
        return self._rule

    @property
    def left(self):
        """The credit that is left."""
        return self._credit - self._unpassed - self._withheld

    @property
    def unpassed(self):
        """The letters that were sent and have not passed."""
        return self._unpassed

    @property
    def withheld(self):
        """What passed and was not given back."""
        return self._withheld

    def __bool__(self):
        return bool(self.left > 0)

    def __eq__(self, other):
        if not isinstance(other, Account):
            return False
        mine = (self._credit, self._unpassed, self._withheld)
        return mine == (other._credit, other._unpassed, other._withheld) and self._rule == other._rule

    def __isub__(self, many):
        if many > self.left:
            raise Overdrawn(many)
        self._unpassed = self._unpassed + many
        return self

    def __iadd__(self, many):
        if many > self._unpassed:
            raise NotPassed(many)
        self._unpassed = self._unpassed - many
        self._withheld = self._rule.rest(self._withheld + many)
        return self

    def passes(self, size, many):
        """Let many amounts of size letters each pass, one after another, and return what is given back."""
        if size * many > self._unpassed:
            raise NotPassed(size * many)
        withheld, total, _ = repeated(self._rule, self._withheld, size, many)
        self._unpassed = self._unpassed - size * many
        self._withheld = withheld
        return total

    def flows(self, size, many):
        """Many times send size letters that pass at once, and return what is given back."""
        withheld, total, peak = repeated(self._rule, self._withheld, size, many)
        if self._credit - self._unpassed - peak < size:
            raise Overdrawn(size)
        self._withheld = withheld
        return total

    def copied(self):
        """Return an Account that stands where this one does."""
        account = Account(self._credit, self._rule)
        account._unpassed = self._unpassed
        account._withheld = self._withheld
        return account
