"""Runs: played, told step by step, and those that cannot be done."""

import inspect
import random
import unittest

from plain import some_plan, some_run, some_step, standing
from sharedpipe.errors import Broken, PipeError
from sharedpipe.machine import Machine
from sharedpipe.plans import Plan
from sharedpipe.rules import at_least
from sharedpipe.runs import is_run, letters, played, walk
from values import LONG, raised, things

SOON = at_least(1)
RUN = [("pass", "b", 1, 1), ("put", "a", 4, 1, False), ("begin", "b", 3, False), ("send", "b", 1, 1)]


def plan():
    """Return the Plan of the document's examples."""
    streams = {"a": (4, SOON, None, "home", None, None), "b": (3, SOON, 3, None, None, None)}
    return Plan((6, at_least(2), "read"), {"home": (5, SOON, "read", None)}, {}, streams)


class Runs(unittest.TestCase):
    def test_played(self):
        machine = Machine(plan())
        for step in RUN:
            machine.step(step)
        for run in (RUN, tuple(RUN)):
            found = played(plan(), run)
            self.assertIsInstance(found, Machine)
            self.assertEqual([found, standing(found), found.steps()], [machine, standing(machine), RUN])
        for run in ([], ()):
            self.assertEqual(played(plan(), run), Machine(plan()))

    def test_the_run_stays_as_it_is(self):
        run = list(RUN)
        machine = played(plan(), run)
        machine.back()
        machine.steps().clear()
        is_run(plan(), run)
        list(walk(plan(), run))
        letters(run)
        self.assertEqual(run, RUN)
        run.clear()
        self.assertEqual(machine.steps(), RUN[:3])

    def test_the_first_step_that_cannot_be_done(self):
        bad = [("send", "b", 1, 1), ("put", "a", 5, 1, False), ("read", "b", 1, 1), list(RUN[0]), None, "put", 5]
        for wrong in bad + things():
            for at in range(3):
                run = RUN[:at] + [wrong] + RUN[at:]
                for either in (run, tuple(run), run + [wrong], run[:at + 1]):
                    self.assertEqual(raised(self, Broken, played, plan(), either).at, at)
                    self.assertIs(is_run(plan(), either), False)

    def test_each_reason_why_a_step_cannot_be_done(self):
        for step in (("fetch", "a", 1), ("begin", "c", 1, False), ("send", "a", 1, 1), ("put", "a", 1, 1, False)):
            self.assertEqual(raised(self, Broken, played, plan(), RUN + [step, RUN[0]]).at, 4)

    def test_is_run(self):
        for run in (RUN, tuple(RUN), [], (), RUN[:1]):
            self.assertIs(is_run(plan(), run), True)
        for thing in [thing for thing in things() if thing not in ([], ())] + [RUN[0], {0: RUN[0]}, set(RUN),
            iter(RUN)]:
            self.assertIs(is_run(plan(), thing), False)

    def test_things_that_are_no_runs_at_all(self):
        for thing in [thing for thing in things() if thing not in ([], ())] + [RUN[0], 7, "pass"]:
            self.assertEqual(raised(self, Broken, played, plan(), thing).at, 0)
            self.assertEqual(raised(self, Broken, list, walk(plan(), thing)).at, 0)

    def test_letters(self):
        self.assertEqual(letters(RUN), 6)
        self.assertEqual([letters([]), letters(()), letters(tuple(RUN))], [0, 0, 6])
        self.assertEqual(letters([("begin", "a", 9, True), ("read", "a", 2, 2), ("fetch", "b", 3)]), 0)
        self.assertEqual(letters([("send", "a", 3, 5)]), 15)
        self.assertEqual(letters([("put", "a", 2, LONG, True), ("pass", "a", LONG, 3)]), 5 * LONG)

    def test_letters_are_those_that_are_sent(self):
        pick = random.Random(1)
        for _ in range(60):
            some = some_plan(pick)
            run = some_run(pick, some, 30)
            self.assertEqual(letters(run), played(some, run).sent())


class Walks(unittest.TestCase):
    def test_walk(self):
        found = list(walk(plan(), RUN))
        self.assertEqual(found, [
            {"a": 4, "b": 3, "home": 5, "pipe": 6}, {"a": 4, "b": 3, "home": 5, "pipe": 5},
            {"a": 0, "b": 3, "home": 1, "pipe": 1}, {"a": 0, "b": 3, "home": 1, "pipe": 1},
            {"a": 0, "b": 2, "home": 1, "pipe": 0}])
        for row in found:
            self.assertEqual(list(row), ["a", "b", "home", "pipe"])
        self.assertEqual(list(walk(plan(), tuple(RUN))), found)
        self.assertEqual(list(walk(plan(), [])), found[:1])

    def test_it_is_a_generator_that_may_be_left_early(self):
        moments = walk(plan(), RUN)
        self.assertTrue(inspect.isgenerator(moments))
        first = next(moments)
        first.clear()
        self.assertEqual(next(moments)["pipe"], 5)
        moments.close()
        self.assertEqual(list(moments), [])

    def test_the_caller_may_change_what_comes(self):
        run, seen = list(RUN), []
        for moment in walk(plan(), run):
            seen.append(moment["pipe"])
            moment["pipe"] = 99
            run.clear()
        self.assertEqual(seen, [6, 5, 1, 1, 0])

    def test_a_step_that_cannot_be_done(self):
        for wrong in (None, ("put", "a", 5, 1, False), ("send", "b", 1, 1), ("send", "b", 1, True)):
            for at in range(3):
                moments = walk(plan(), RUN[:at] + [wrong] + RUN[at:])
                for _ in range(at + 1):
                    next(moments)
                with self.assertRaises(PipeError) as caught:
                    next(moments)
                self.assertEqual([caught.exception.__class__, caught.exception.at], [Broken, at])
                self.assertEqual(list(moments), [])

    def test_against_machines(self):
        pick = random.Random(2)
        for _ in range(40):
            some = some_plan(pick)
            run = some_run(pick, some, 30)
            names = sorted(some.shared() + some.streams())
            machine = Machine(some)
            moments = list(walk(some, run))
            self.assertEqual(len(moments), len(run) + 1)
            for at, moment in enumerate(moments):
                self.assertEqual(list(moment.items()), [(name, machine.left_of(name)) for name in names])
                if at < len(run):
                    machine.step(run[at])
            self.assertTrue(is_run(some, run))
            step = some_step(pick, some, machine)
            try:
                machine.step(step)
            except PipeError:
                self.assertEqual(raised(self, Broken, played, some, run + [step]).at, len(run))
            else:
                self.assertEqual(played(some, run + [step]), machine)
