"""Layouts: plans with numbers in the place of names, as standings have them."""

from math import lcm

from sharedpipe.trees import leaves_of


class Layout:
    """The pools and the streams of a plan, by their places in the ascending lists of their names."""

    # What stands in each of these, one for each pool: the names, credits and rules, whether letters
    # pass when they come, and the streams under the pool. One for each stream: the most, whether it
    # has a guide, the pools over it, the streams whose guide it is, and how many letters of it,
    # sent or read together, lead somewhere where fewer, one after another, do not.

    def __init__(self, plan):
        pools = sorted(plan.shared() + plan.streams())
        lines = plan.streams()
        self.names = tuple(pools)
        self.allowed = tuple([plan[name][0] for name in pools])
        self.giving = tuple([plan[name][1] for name in pools])
        self.early = tuple([plan[name][2] == "come" for name in pools])
        self.below = tuple([tuple([lines.index(line) for line in plan.under(name)]) for name in pools])
        self.mosts = tuple([plan.most(line) for line in lines])
        self.guided = tuple([plan.guide(line) is not None for line in lines])
        self.above = tuple([tuple([pools.index(name) for name in plan.over(line)]) for line in lines])
        self.guiding = tuple([tuple([lines.index(other) for other in lines if plan.guide(other) == line])
                              for line in lines])
        self.sent_at_once = tuple([self._at_once(above, True) for above in self.above])
        self.read_at_once = tuple([self._at_once(above, False) for above in self.above])

    def _at_once(self, pools, early):
        """Return how many letters together may do what fewer, one after another, do not, at those pools they pass."""
        return most_at_once([self.giving[pool] for pool in pools if self.early[pool] == early])


def most_at_once(rules):
    """Return a number such that more letters pass pools with these rules together as fewer and then some more do."""
    if len(rules) == 0:
        return 1
    leaves = [leaf for rule in rules for leaf in leaves_of(rule.tree())]
    start = max([least for _, least, _ in leaves])
    turn = 1
    for _, _, by in leaves:
        turn = lcm(turn, by)
    # From start on, what a rule leaves comes again with each turn, and what it left stays the
    # same if so many turns pass behind it that they reach start. So they can pass by themselves.
    return start + (start + turn - 1) // turn * turn
