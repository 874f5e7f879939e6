"""Fills and covers: of given plans, and of small ones against all fills and covers that there are."""

import itertools
import random
import unittest

from plain import some_plan, some_slow
from sharedpipe.covers import cover, cover_sum, is_cover
from sharedpipe.errors import BadSlow, Unknown
from sharedpipe.fills import fill, filled, holds, is_fill
from sharedpipe.plans import Plan
from sharedpipe.rules import at_least
from values import LONG, raised, things

SOON = at_least(1)


def crossed(house=5, kind=6, moment="read", pipe="read"):
    """Return a Plan in which a and b share a house, b and c a kind; d is read whole, e has a guide, f is plain."""
    streams = {"a": (4, SOON, None, "home", None, None), "b": (4, SOON, None, "home", "sort", None),
               "c": (4, SOON, None, None, "sort", None), "d": (9, SOON, 3, None, None, None),
               "e": (2, SOON, None, None, None, "f"), "f": (7, SOON, None, None, None, None)}
    return Plan((30, at_least(2), pipe), {"home": (house, SOON, moment, None)},
                {"sort": (kind, SOON, moment, None), "void": (1, SOON, "read", None)}, streams)


def reads(plan):
    """Return the names of the shared pools with the moment "read"."""
    return [name for name in plan.shared() if plan[name][2] == "read"]


def all_fills(plan, name, slow):
    """Return all fills, worked out from the words of the document."""
    under = plan.under(name)
    ranges = []
    for stream in under:
        most = plan.most(stream)
        if stream in slow or plan.guide(stream):
            ranges.append(range(plan[stream][0] + 1))
        else:
            ranges.append(range(most) if most else range(1))
    found = []
    for numbers in itertools.product(*ranges):
        thing = dict(zip(under, numbers))
        if all(sum(thing.get(stream, 0) for stream in plan.under(other)) <= plan[other][0]
               for other in reads(plan) if other != name):
            found.append(thing)
    return found


def all_covers(plan, name, slow):
    """Return all covers, worked out from the words of the document."""
    others = [other for other in reads(plan) if other != name]
    can_hold = holds(plan, name, slow)
    found = []
    for bits in itertools.product([False, True], repeat=len(others) + len(can_hold)):
        pools = [other for other, chosen in zip(others, bits) if chosen]
        streams = [stream for stream, chosen in zip(can_hold, bits[len(others):]) if chosen]
        if all(many == 0 or stream in streams or set(plan.over(stream)) & set(pools)
               for stream, many in can_hold.items()):
            found.append((tuple(pools), tuple(streams)))
    return found


class Holding(unittest.TestCase):
    def test_what_each_stream_can_hold(self):
        plan = crossed()
        self.assertEqual(holds(plan, "pipe", []), {"a": 0, "b": 0, "c": 0, "d": 2, "e": 2, "f": 0})
        self.assertEqual(holds(plan, "pipe", ["d", "a"]), {"a": 4, "b": 0, "c": 0, "d": 9, "e": 2, "f": 0})
        self.assertEqual(holds(plan, "home", ("b",)), {"a": 0, "b": 4})
        self.assertEqual(holds(plan, "sort", ["e", "c"]), {"b": 0, "c": 4})
        self.assertEqual(holds(plan, "void", ["e", "c"]), {})
        self.assertEqual(list(holds(plan, "pipe", ["e", "c"])), list("abcdef"))

    def test_a_stream_read_whole_with_a_guide(self):
        streams = {"a": (9, SOON, 3, None, None, "g"), "g": (9, SOON, 4, None, None, None),
                   "h": (9, SOON, 1, None, None, None)}
        plan = Plan((30, SOON, "read"), {}, {}, streams)
        self.assertEqual(holds(plan, "pipe", []), {"a": 9, "g": 3, "h": 0})
        self.assertEqual(cover(plan, "pipe", []), ((), ("a", "g")))


class Filling(unittest.TestCase):
    def test_pools_that_overlap(self):
        plan = crossed()
        slow = ["a", "b", "c"]
        self.assertEqual(filled(plan, "pipe", slow), 13)
        self.assertEqual(sum(fill(plan, "pipe", slow).values()), 13)
        self.assertEqual(cover_sum(plan, "pipe", slow, cover(plan, "pipe", slow)), 13)
        self.assertEqual(filled(crossed(5, 3), "pipe", slow), 11)
        self.assertEqual(filled(crossed(1, 1), "pipe", slow), 6)
        self.assertEqual([filled(plan, "home", slow), filled(plan, "sort", slow)], [8, 8])
        self.assertEqual([filled(crossed(5, 3), "home", slow), filled(crossed(3, 5), "sort", slow)], [7, 7])
        self.assertEqual([filled(plan, "void", slow), fill(plan, "void", slow), cover(plan, "void", slow)],
                         [0, {}, ((), ())])

    def test_the_pipe_bounds_what_a_group_holds(self):
        plan = crossed().with_pool("pipe", credit=3)
        self.assertEqual([filled(plan, "home", ["a", "b"]), cover(plan, "home", ["a", "b"])], [3, (("pipe",), ())])
        plan = crossed(pipe="come").with_pool("pipe", credit=3)
        self.assertEqual(filled(plan, "home", ["a", "b"]), 8)

    def test_pools_that_pass_letters_when_they_come_bound_nothing(self):
        slow = ["a", "b", "c"]
        self.assertEqual(filled(crossed(1, 1, "come"), "pipe", slow), 16)
        self.assertEqual(cover(crossed(1, 1, "come"), "pipe", slow), ((), ("a", "b", "c", "d", "e")))
        thing = {"a": 4, "b": 4, "c": 4, "d": 2, "e": 2, "f": 0}
        self.assertIs(is_fill(crossed(1, 1, "come"), "pipe", slow, thing), True)
        self.assertIs(is_fill(crossed(7, 9), "pipe", slow, thing), False)
        self.assertIs(is_fill(crossed(8, 7), "pipe", slow, thing), False)
        self.assertIs(is_fill(crossed(8, 8), "pipe", slow, thing), True)

    def test_one_pool_bounds_several(self):
        streams = {name: (10, SOON, None, "in", None, None) for name in "abcde"}
        streams["f"] = (10, SOON, None, "out", None, None)
        plan = Plan((99, SOON, "read"), {"in": (7, SOON, "read", "out"), "out": (12, SOON, "read", None)}, {}, streams)
        slow = list("abcdf")
        self.assertEqual([filled(plan, "pipe", slow), cover(plan, "pipe", slow)], [12, (("out",), ())])
        self.assertEqual([filled(plan, "out", slow), cover(plan, "out", slow)], [17, (("in",), ("f",))])
        self.assertEqual([filled(plan, "in", slow), cover(plan, "in", slow)], [12, (("out",), ())])
        self.assertEqual([filled(plan, "in", ["a"]), cover(plan, "in", ["a"])], [10, ((), ("a",))])

    def test_great_numbers(self):
        third = LONG // 3
        streams = {name: (third, SOON, None, house, kind, None) for name, house, kind in (
            ("a", "x", "u"), ("b", "x", "v"), ("c", "y", "u"), ("d", "y", "v"), ("e", "y", None), ("f", "z", "w"))}
        houses = {"x": (third + 7, SOON, "read", "y"), "y": (2 * third, SOON, "read", None),
                  "z": (third - 1, SOON, "read", None)}
        kinds = {"u": (third + 1, SOON, "read", None), "v": (5, SOON, "read", "w"),
                 "w": (third // 2, SOON, "read", None)}
        plan = Plan((LONG, SOON, "read"), houses, kinds, streams)
        slow = list("abcdf")
        self.assertEqual(filled(plan, "pipe", slow), third + 1 + third // 2)
        found = fill(plan, "pipe", slow)
        self.assertTrue(is_fill(plan, "pipe", slow, found))
        self.assertEqual(sum(found.values()), third + 1 + third // 2)

    def test_against_all_fills_and_covers(self):
        pick = random.Random(60)
        seen = 0
        for _ in range(150):
            plan = some_plan(pick, streams=pick.randint(1, 4))
            for name in reads(plan):
                slow = some_slow(pick, plan)
                fills, covers = all_fills(plan, name, slow), all_covers(plan, name, slow)
                greatest = max([sum(thing.values()) for thing in fills])
                found = fill(plan, name, slow)
                self.assertEqual(filled(plan, name, slow), greatest)
                self.assertEqual(sum(found.values()), greatest)
                self.assertIn(found, fills)
                self.assertEqual(list(found), plan.under(name))
                self.assertTrue(is_fill(plan, name, slow, found))
                least = cover(plan, name, slow)
                self.assertIn(least, covers)
                self.assertTrue(is_cover(plan, name, slow, least))
                self.assertEqual(cover_sum(plan, name, slow, least), greatest)
                self.assertEqual(min([cover_sum(plan, name, slow, thing) for thing in covers]), greatest)
                for _ in range(10):
                    thing = {stream: pick.randint(0, plan[stream][0]) for stream in plan.under(name)}
                    self.assertIs(is_fill(plan, name, slow, thing), thing in fills)
                    seen += thing in fills
        self.assertGreater(seen, 100)

    def test_is_cover_against_all_covers(self):
        pick = random.Random(61)
        for _ in range(60):
            plan = some_plan(pick, streams=pick.randint(1, 3))
            names = [names for many in range(4) for names in itertools.combinations(plan.shared() + plan.streams(),
                many)]
            for name in reads(plan)[:2]:
                slow = some_slow(pick, plan)
                covers = all_covers(plan, name, slow)
                for pools, streams in itertools.product(names[:60], names[:60]):
                    thing = (tuple(sorted(pools)), tuple(sorted(streams)))
                    self.assertIs(is_cover(plan, name, slow, thing), thing in covers)
                for thing in covers:
                    self.assertIs(is_cover(plan, name, slow, thing), True)


class Things(unittest.TestCase):
    def test_fills(self):
        plan, slow = crossed(), ["a", "b", "c"]
        good = {"a": 1, "b": 4, "c": 2, "d": 2, "e": 0, "f": 0}
        self.assertIs(is_fill(plan, "pipe", slow, good), True)
        self.assertIs(is_fill(plan, "pipe", slow, dict(reversed(list(good.items())))), True)
        self.assertIs(is_fill(plan, "pipe", slow, {name: 0 for name in good}), True)
        bad = [{**good, "a": 2}, {**good, "c": 3}, {**good, "d": 3}, {**good, "e": 3}, {**good, "f": 1},
               {**good, "z": 0},
               {**good, "home": 0}, {**good, "e": -1}, {**good, "e": True}, {**good, "e": False}, {**good, "e": None},
               {**good, "e": "1"}, {**good, "e": [1]}, {**good, 0: 0}, list(good.items()), list(good),
               tuple(good.values())]
        bad += [{name: many for name, many in good.items() if name != gone} for gone in good]
        bad += [{**{name: many for name, many in good.items() if name != gone}, "z": 0} for gone in good]
        for thing in bad + things():
            self.assertIs(is_fill(plan, "pipe", slow, thing), False)
        self.assertIs(is_fill(plan, "void", slow, {}), True)
        self.assertIs(is_fill(plan, "home", slow, {"a": 4, "b": 4}), True)
        self.assertIs(is_fill(plan, "home", slow, {"a": 5, "b": 4}), False)

    def test_covers(self):
        plan, slow = crossed(), ["a", "b", "c"]
        good = [(("home", "sort"), ("d", "e")), (("home",), ("c", "d", "e")), ((), ("a", "b", "c", "d", "e")),
                ((), ("a", "b", "c", "d", "e", "f")), (("home", "sort", "void"), ("a", "b", "c", "d", "e", "f"))]
        for thing in good:
            self.assertIs(is_cover(plan, "pipe", slow, thing), True)
        self.assertEqual([cover_sum(plan, "pipe", slow, thing) for thing in good], [15, 13, 16, 16, 28])
        bad = [(("home",), ("d", "e")), (("home", "sort"), ("d",)), ((), ()), (("home", "home"), ("c", "d", "e")),
               (("home",), ("c", "c", "d", "e")), (("sort", "home"), ("d", "e")), (("home", "sort"), ("e", "d")),
               (["home", "sort"], ("d", "e")), (("home", "sort"), ["d", "e"]), [("home", "sort"), ("d", "e")],
               (("home", "pipe"), ("c", "d", "e")), (("a", "home"), ("c", "d", "e")),
               (("home",), ("c", "d", "e", "home")),
               (("home", "sort"), ("d", "e"), ()), (("home", "sort"),), (("home", "z"), ("c", "d", "e")),
               (("home", "sort"), ("d", "e", "z")), ((None,), ("d", "e")), (("home", "sort"), ("d", "e", 1)),
               (("home", ["sort"]), ("d", "e")), ("home", ("c", "d", "e")), (("home",), "cde"),
               ({"home": 1}, ("c", "d", "e"))]
        for thing in bad + things():
            self.assertIs(is_cover(plan, "pipe", slow, thing), False)
        # The pipe is another pool for a group; the group is none for itself, nor is one with the moment "come".
        self.assertIs(is_cover(plan, "home", slow, (("pipe",), ())), True)
        self.assertIs(is_cover(plan, "home", slow, (("home",), ("a", "b"))), False)
        self.assertIs(is_cover(plan, "home", slow, (("sort",), ("a",))), True)
        self.assertIs(is_cover(plan, "home", slow, (("pipe",), ("c",))), False)
        self.assertIs(is_cover(crossed(moment="come"), "pipe", slow, (("home",), ("a", "b", "c", "d", "e"))), False)

    def calls(self, plan, name, slow):
        """Return calls of all functions with these arguments."""
        return [lambda: holds(plan, name, slow), lambda: filled(plan, name, slow), lambda: fill(plan, name, slow),
                lambda: is_fill(plan, name, slow, {}), lambda: cover(plan, name, slow),
                lambda: cover_sum(plan, name, slow, ((), ())), lambda: is_cover(plan, name, slow, ((), ()))]

    def test_names_that_are_no_such_pools(self):
        plan = crossed(moment="come")
        for name in ["home", "sort", "a", "f", "z", "Pipe", 0] + things():
            for slow in ([], ["z"]):
                for call in self.calls(plan, name, slow):
                    self.assertIs(raised(self, Unknown, call).name, name)
        for call in self.calls(crossed(pipe="come"), "pipe", []):
            self.assertEqual(raised(self, Unknown, call).name, "pipe")

    def test_slow_sets_that_are_none(self):
        plan = crossed()
        bad = [["f"], ["a", "a"], ["z"], ["home"], list("abcdef"), ["a", None], "a", {"a"}, {"a": 1}, ["a", "f"]]
        for slow in bad + [thing for thing in things() if thing not in ([], ())]:
            for call in self.calls(plan, "pipe", slow):
                raised(self, BadSlow, call)

    def test_nothing_is_changed_or_shared(self):
        plan, slow = crossed(), ["c", "a", "b"]
        first = [call() for call in self.calls(plan, "pipe", slow)]
        holds(plan, "pipe", slow).clear()
        fill(plan, "pipe", slow)["a"] = 99
        thing = fill(plan, "pipe", slow)
        kept = dict(thing)
        is_fill(plan, "pipe", slow, thing)
        self.assertEqual([slow, thing, plan], [["c", "a", "b"], kept, crossed()])
        self.assertEqual([call() for call in self.calls(plan, "pipe", slow)], first)
        for order in itertools.permutations("abc"):
            self.assertEqual([call() for call in self.calls(plan, "pipe", order)][:2], first[:2])
            self.assertEqual(filled(plan, "pipe", order), 13)
