"""Pools that stand full, and streams that are stopped."""

import random
import unittest

from plain import Plain, does, some_plan, some_slow, some_step, standing
from sharedpipe.errors import BadSlow, Unknown
from sharedpipe.fullness import stands_full, stopped
from sharedpipe.machine import Machine
from sharedpipe.plans import Plan
from sharedpipe.rules import at_least
from sharedpipe.runs import played
from values import raised, things

SOON = at_least(1)


def four(pipe=8, moment="read"):
    """Return a Plan with streams a and b in a house, b read whole, g the guide of a, and c outside."""
    streams = {"a": (4, SOON, None, "home", None, "g"), "b": (4, SOON, 3, "home", None, None),
               "c": (4, SOON, None, None, "sort", None), "g": (4, SOON, None, "home", None, None)}
    kinds = {"sort": (4, SOON, "read", None), "void": (1, SOON, "read", None)}
    return Plan((pipe, SOON, moment), {"home": (6, SOON, moment, None)}, kinds, streams)


class Full(unittest.TestCase):
    def test_credit_that_is_left(self):
        machine = played(four(), [("put", "b", 2, 2, False), ("put", "a", 1, 1, True)])
        self.assertEqual(machine.left_of("home"), 1)
        self.assertIs(stands_full(machine, "home", ["b"]), False)
        machine.step(("put", "a", 1, 1, True))
        self.assertIs(stands_full(machine, "home", ["b"]), True)
        self.assertEqual(stopped(machine, ["b"]), ["a", "g"])
        self.assertIs(stands_full(machine, "pipe", ["b"]), False)

    def test_what_is_readable(self):
        machine = played(four(), [("put", "b", 2, 2, False), ("put", "a", 1, 2, True)])
        self.assertIs(stands_full(machine, "home", []), False)
        self.assertEqual(stopped(machine, []), [])
        # What waits, and a part of a message that is read whole, is not readable.
        machine = played(four(), [("begin", "b", 3, False), ("send", "b", 2, 1), ("put", "a", 4, 1, True)])
        self.assertIs(stands_full(machine, "home", []), True)
        self.assertEqual(stopped(machine, []), ["a", "b", "g"])
        machine = played(four(), [("begin", "b", 3, False), ("send", "b", 2, 1), ("put", "a", 3, 1, True),
                                  ("put", "g", 1, 1, False)])
        self.assertIs(stands_full(machine, "home", []), False)
        self.assertIs(stands_full(machine, "home", ["a"]), False)

    def test_readable_at_slow_streams_only(self):
        machine = played(four(), [("begin", "b", 3, False), ("send", "b", 2, 1), ("put", "a", 4, 1, False)])
        self.assertIs(stands_full(machine, "home", ["a"]), True)
        self.assertIs(stands_full(machine, "home", ["b"]), False)
        self.assertEqual(stopped(machine, ["a"]), ["b", "g"])
        self.assertEqual(stopped(machine, ["a", "b"]), ["g"])

    def test_readable_elsewhere(self):
        machine = played(four(), [("put", "c", 1, 2, False), ("put", "b", 3, 1, False), ("put", "a", 3, 1, False)])
        self.assertEqual([machine.left_of("pipe"), machine.left_of("home")], [0, 0])
        self.assertEqual([stands_full(machine, name, ["a", "b"]) for name in ("home", "pipe")], [True, False])
        self.assertEqual(stopped(machine, ["a", "b"]), ["g"])
        self.assertEqual(stopped(machine, ["b", "c", "a"]), ["g"])
        self.assertEqual([stands_full(machine, name, ["a", "b", "c"]) for name in ("home", "pipe")], [True, True])

    def test_a_pool_with_nothing_under_it(self):
        machine = Machine(four())
        self.assertIs(stands_full(machine, "void", []), False)

    def test_own_pools_stop_nothing(self):
        machine = played(four(), [("put", "c", 4, 1, False)])
        self.assertIs(stands_full(machine, "sort", ["c"]), True)
        self.assertEqual(stopped(machine, ["c"]), [])
        machine = played(four(20).with_pool("home", credit=20), [("put", "a", 4, 1, True)])
        self.assertEqual(stopped(machine, []), [])

    def test_slow_sets_in_any_order(self):
        machine = played(four(), [("begin", "b", 3, False), ("send", "b", 2, 1), ("put", "a", 4, 1, False)])
        before = standing(machine)
        for slow in (["a", "b"], ["b", "a"], ("a", "b"), ("b", "a")):
            kept = list(slow)
            self.assertEqual(stopped(machine, slow), ["g"])
            self.assertIs(stands_full(machine, "home", slow), True)
            self.assertEqual(list(slow), kept)
        self.assertEqual(standing(machine), before)
        stopped(machine, []).append("z")
        self.assertEqual(stopped(machine, []), [])

    def test_slow_sets_that_are_none(self):
        machine = Machine(four())
        bad = [["a", "a"], ("b", "c", "b"), ["g"], ["a", "g"], ["z"], ["home"], ["pipe"], [None], [["a"]], ["a", "A"],
               ["a", "b", "c", "g"], ("c", "b", "a", "g"), ["a", "b", "c", "a"], ["a", 1], "a", "ab", {"a": 1}, {"a"}]
        for slow in bad + [thing for thing in things() if thing not in ([], ())]:
            raised(self, BadSlow, stopped, machine, slow)
            raised(self, BadSlow, stands_full, machine, "pipe", slow)
        alone = Machine(Plan((2, SOON, "read"), {}, {}, {"a": (1, SOON, None, None, None, None)}))
        raised(self, BadSlow, stopped, alone, ["a"])
        self.assertEqual(stopped(alone, []), [])

    def test_names_that_are_no_shared_pools(self):
        machine = Machine(four())
        for name in ["a", "g", "z", "Pipe", 0] + things():
            self.assertIs(raised(self, Unknown, stands_full, machine, name, []).name, name)
            # Ahead of BadSlow.
            self.assertIs(raised(self, Unknown, stands_full, machine, name, ["z"]).name, name)

    def test_against_the_words(self):
        pick = random.Random(42)
        full = 0
        for _ in range(240):
            plan = some_plan(pick)
            machine, plain = Machine(plan), Plain(plan)
            for _ in range(25):
                step = some_step(pick, plan, machine)
                if does(machine, step):
                    plain.do(step, plan.over(step[1]))
            slow = some_slow(pick, plan)
            due = []
            for name in plan.shared():
                quick = [stream for stream in plan.under(name) if stream not in slow]
                if plain.left(name) == 0 and sum(plain.readable(stream) for stream in quick) == 0:
                    due.append(name)
            self.assertEqual([name for name in plan.shared() if stands_full(machine, name, slow)], due)
            quick = [stream for stream in plan.streams() if stream not in slow]
            self.assertEqual(stopped(machine, slow), [stream for stream in quick if set(plan.over(stream)) & set(due)])
            full += len(due)
        self.assertGreater(full, 20)
