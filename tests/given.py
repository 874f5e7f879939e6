"""Plans that several tests share, and other plans made of them."""

import string

from sharedpipe.plans import Plan
from sharedpipe.rules import Rule, at_least

SOON = at_least(1)


def example():
    """Return the Plan of the document's examples."""
    streams = {"a": (4, SOON, None, "home", None, None), "b": (3, SOON, 3, None, None, None)}
    return Plan((6, at_least(2), "read"), {"home": (5, SOON, "read", None)}, {}, streams)


def mixed(pipe=30, home=12, sort=9, moment="read"):
    """Return a Plan with all that there is: c and d in a house in a house and in a kind, one of them whole.

    The guide of e is f, which is read whole; a lies in the kind alone, b nowhere.
    """
    streams = {"a": (5, at_least(2), None, None, "sort", None), "b": (6, SOON, 1, None, None, None),
               "c": (6, at_least(3), None, "room", "sort", None), "d": (7, at_least(2), 4, "room", "sort", None),
               "e": (5, at_least(4), None, "home", None, "f"), "f": (8, at_least(4), 3, "home", None, None)}
    houses = {"home": (home, at_least(3), moment, None), "room": (20, at_least(2, 2), "read", "home")}
    return Plan((pipe, at_least(5), "read"), houses, {"sort": (sort, at_least(4, 3), "read", None)}, streams)


def great():
    """Return a Plan with credits of up to 39 digits, six groups and six streams."""
    third = 10 ** 38
    streams = {"a": (third, SOON, None, "in", "left", None), "b": (third + 1, at_least(9, 4), 7, "in", "right", None),
               "c": (third + 2, SOON, None, "mid", "left", "d"), "d": (third + 3, SOON, third, "mid", "left", None),
               "e": (third + 4, at_least(third), None, "out", "right", None),
               "f": (third, SOON, third, None, "all", None)}
    houses = {"in": (third, SOON, "read", "mid"), "mid": (2 * third, at_least(5), "read", "out"),
              "out": (3 * third, at_least(third), "read", None)}
    kinds = {"left": (third // 2, at_least(3), "read", "all"), "right": (third + 9, SOON, "read", "all"),
             "all": (5 * third, at_least(6, 6), "read", None)}
    return Plan((4 * third, at_least(third), "read"), houses, kinds, streams)


def threshold_rules(pick, threshold):
    """Return a Rule with just this threshold, chosen by pick."""
    by = pick.randint(1, min(6, threshold))
    plain = Rule(("at", threshold, by))
    further = Rule(("at", threshold + pick.randint(0, 9), pick.randint(1, 6)))
    lower = Rule(("at", pick.randint(1, threshold), pick.randint(1, min(6, threshold))))
    return pick.choice([plain, plain | further, plain & lower, (plain & lower) | further])


def with_rules(pick, plan):
    """Return a Plan with other rules of the same thresholds."""
    for name in plan.shared() + plan.streams():
        plan = plan.with_pool(name, rule=threshold_rules(pick, plan[name][1].threshold))
    return plan


def other_names(pick, plan):
    """Return other names for streams, groups and the pipe, such that the order of all stays and the pipe is itself."""
    old = sorted(plan.shared() + plan.streams())
    place = old.index("pipe")

    def some(letters, many):
        words = set()
        while len(words) < many:
            more = [pick.choice(string.ascii_lowercase) for _ in range(pick.randint(0, 7))]
            words.add(pick.choice(letters) + "".join(more))
        return sorted(words)

    new = some("abcdefghijklmno", place) + ["pipe"] + some("qrstuvwxyz", len(old) - place - 1)
    return dict(zip(old, new))


def renamed(plan, names):
    """Return the Plan with the names that other_names returns."""
    return plan.renamed({name: new for name, new in names.items() if name != "pipe"})


def further_slow(pick, plan, slow):
    """Return slow streams and some more, in any order."""
    more = [stream for stream in plan.streams() if stream not in slow and stream not in plan.guides()]
    pick.shuffle(more)
    grown = list(slow) + more[:pick.randint(0, len(more))]
    grown = grown[:len(plan.streams()) - 1]
    pick.shuffle(grown)
    return grown
