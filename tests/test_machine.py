"""Machines: steps, where they leave pools and streams, and steps that cannot be done."""

import random
import unittest

from plain import Plain, does, some_plan, some_step, standing
from sharedpipe.errors import NoCredit, NoStep, Nothing, PipeError, Unknown, Unready
from sharedpipe.machine import Machine
from sharedpipe.plans import Plan
from sharedpipe.rules import at_least
from values import LONG, raised, rule_of, things

SOON = at_least(1)


def guided(credit=40, moment="read"):
    """Return a Plan with a guide g, of streams a, read in any parts, and b, read whole; c is free."""
    streams = {
        "a": (credit, SOON, None, "home", None, "g"), "b": (credit, SOON, 5, "home", None, "g"),
        "c": (credit, SOON, 3, None, None, None), "g": (credit, SOON, None, "home", None, None),
    }
    return Plan((4 * credit, SOON, moment), {"home": (3 * credit, SOON, moment, None)}, {}, streams)


def after(plan, *steps):
    """Return the Machine behind these steps."""
    machine = Machine(plan)
    for step in steps:
        machine.step(step)
    return machine


class Wrong(unittest.TestCase):
    def refuses(self, machine, step, error, field=None, worth=None):
        before = (standing(machine), machine.steps(), machine.sent(), len(machine))
        found = raised(self, error, machine.step, step)
        if field:
            self.assertEqual(getattr(found, field), worth)
        self.assertEqual((standing(machine), machine.steps(), machine.sent(), len(machine)), before)

    def test_things_that_are_no_steps(self):
        machine = after(guided(), ("put", "a", 3, 2, False), ("begin", "b", 4, True), ("send", "b", 1, 1))
        for thing in things() + [5, LONG, "put", "send a 1 1"]:
            self.refuses(machine, thing, NoStep)
            for word in ("begin", "send", "put", "read", "fetch", "pass"):
                self.refuses(machine, (word, thing, 1, 1), NoStep)
            self.refuses(machine, (thing, "a", 1, 1), NoStep)

    def test_steps_with_a_wrong_part(self):
        machine = after(guided(), ("put", "a", 3, 2, False))
        good = [("begin", "b", 1, False), ("send", "a", 1, 1), ("put", "b", 1, 1, False), ("read", "a", 1, 1),
                ("fetch", "b", 1), ("pass", "g", 1, 1)]
        for step in good:
            self.refuses(machine, list(step), NoStep)
            self.refuses(machine, step[:-1], NoStep)
            self.refuses(machine, step + (1,), NoStep)
            self.refuses(machine, step + (False,), NoStep)
            self.refuses(machine, (step[0], "z") + step[2:], NoStep)
            self.refuses(machine, (step[0], "home") + step[2:], NoStep)
            self.refuses(machine, (step[0], "pipe") + step[2:], NoStep)
            self.refuses(machine, (step[0].upper(),) + step[1:], NoStep)
            self.refuses(machine, step[1:], NoStep)
            for at in range(2, len(step)):
                wrong = things() + ["1", "a", 0, -1, -LONG] if step[at] is not False else things() + [0, 1, "False"]
                for thing in wrong:
                    if not (isinstance(thing, bool) and step[at] is False):
                        self.refuses(machine, step[:at] + (thing,) + step[at + 1:], NoStep)

    def test_reading_in_the_wrong_way_is_no_step(self):
        machine = after(guided(), ("put", "a", 3, 2, False), ("put", "b", 3, 2, False))
        self.refuses(machine, ("fetch", "a", 1), NoStep)
        self.refuses(machine, ("read", "b", 3, 1), NoStep)
        self.refuses(machine, ("read", "b", 1, 1), NoStep)
        machine.step(("read", "a", 1, 1))
        machine.step(("fetch", "b", 1))

    def test_no_step_comes_first(self):
        plan = Plan((1, SOON, "read"), {}, {}, {"a": (1, SOON, 1, None, None, None)})
        machine = after(plan, ("put", "a", 1, 1, False))
        self.refuses(machine, ("put", "a", 9, 9, 1), NoStep)
        self.refuses(machine, ("put", "a", 9, 9, True), Unready, "stream", "a")
        self.refuses(machine, ("put", "a", 1, 9, True), Unready, "stream", "a")
        self.refuses(machine, ("put", "a", 1, 9, False), NoCredit, "name", "a")

    def test_a_message_in_hand(self):
        machine = after(guided(), ("begin", "a", 9, False), ("begin", "b", 5, False))
        for stream in "ab":
            self.refuses(machine, ("begin", stream, 1, False), Unready, "stream", stream)
            self.refuses(machine, ("put", stream, 1, 1, False), Unready, "stream", stream)
            self.refuses(machine, ("pass", stream, 1, 1), Unready, "stream", stream)
        machine.step(("send", "a", 9, 1))
        machine.step(("send", "b", 5, 1))
        machine.step(("begin", "a", 9, False))
        machine.step(("put", "b", 5, 1, False))

    def test_sizes_up_to_the_most(self):
        machine = Machine(guided())
        for word, rest in (("begin", (False,)), ("put", (1, False)), ("pass", (1,))):
            self.refuses(machine, (word, "b", 6) + rest, Unready, "stream", "b")
            self.refuses(machine, (word, "b", LONG) + rest, Unready, "stream", "b")
            machine.step((word, "b", 5) + rest)
            machine.back()
        machine.step(("begin", "a", LONG, False))

    def test_waiting_needs_a_guide(self):
        machine = Machine(guided())
        for stream in "cg":
            self.refuses(machine, ("begin", stream, 1, True), Unready, "stream", stream)
            self.refuses(machine, ("put", stream, 1, 1, True), Unready, "stream", stream)
        for stream in "ab":
            machine.step(("put", stream, 1, 1, True))
            machine.step(("begin", stream, 1, True))

    def test_sending_what_is_not_in_hand(self):
        machine = Machine(guided())
        self.refuses(machine, ("send", "a", 1, 1), Unready, "stream", "a")
        machine.step(("begin", "a", 7, False))
        self.refuses(machine, ("send", "a", 8, 1), Unready, "stream", "a")
        self.refuses(machine, ("send", "a", 2, 4), Unready, "stream", "a")
        machine.step(("send", "a", 2, 3))
        self.refuses(machine, ("send", "a", 2, 1), Unready, "stream", "a")
        self.refuses(machine, ("send", "a", 1, 2), Unready, "stream", "a")
        self.assertEqual(machine.hand("a"), (7, 6, False))
        machine.step(("send", "a", 1, 1))
        self.assertIsNone(machine.hand("a"))
        self.refuses(machine, ("send", "a", 1, 1), Unready, "stream", "a")

    def test_reading_what_is_not_there(self):
        machine = after(guided(), ("put", "a", 3, 2, False), ("put", "b", 2, 2, False), ("put", "a", 1, 1, True))
        self.refuses(machine, ("read", "a", 7, 1), Unready, "stream", "a")
        self.refuses(machine, ("read", "a", 2, 4), Unready, "stream", "a")
        self.refuses(machine, ("read", "g", 1, 1), Unready, "stream", "g")
        self.refuses(machine, ("fetch", "b", 3), Unready, "stream", "b")
        self.refuses(machine, ("fetch", "c", 1), Unready, "stream", "c")
        self.refuses(machine, ("fetch", "b", LONG), Unready, "stream", "b")
        machine.step(("read", "a", 2, 3))
        machine.step(("fetch", "b", 2))
        self.refuses(machine, ("read", "a", 1, 1), Unready, "stream", "a")
        self.refuses(machine, ("fetch", "b", 1), Unready, "stream", "b")

    def test_passing_where_something_is_unread(self):
        for first in (("put", "a", 2, 1, False), ("put", "a", 2, 1, True)):
            machine = after(guided(), first)
            self.refuses(machine, ("pass", "a", 1, 1), Unready, "stream", "a")
        for first in (("put", "b", 2, 1, False), ("put", "b", 2, 1, True)):
            machine = after(guided(), first)
            self.refuses(machine, ("pass", "b", 1, 1), Unready, "stream", "b")
        machine.step(("put", "g", 1, 1, False))
        machine.step(("fetch", "b", 1))
        machine.step(("pass", "b", 1, 1))
        self.refuses(machine, ("pass", "g", 1, 1), Unready, "stream", "g")

    def test_names_that_there_are_not(self):
        machine = Machine(guided())
        for name in things() + [5, "z", "A", "homes"]:
            for query in (machine.left_of, machine.unpassed_of, machine.withheld_of):
                self.assertIs(raised(self, Unknown, query, name).name, name)
        for name in things() + [5, "z", "home", "pipe"]:
            for query in (machine.lying, machine.hand, machine.readable, machine.counts):
                self.assertIs(raised(self, Unknown, query, name).name, name)


def over_one(credits, rule=SOON, moment="read", most=None):
    """Return a Plan with one stream a in two houses and two kinds, its pools in the order of over."""
    own, inner, outer, low, high, pipe = credits
    houses = {"hin": (inner, rule, moment, "hout"), "hout": (outer, rule, moment, None)}
    kinds = {"kin": (low, rule, moment, "kout"), "kout": (high, rule, moment, None)}
    return Plan((pipe, rule, moment), houses, kinds, {"a": (own, SOON, most, "hin", "kin", None)})


OVER = ["a", "hin", "hout", "kin", "kout", "pipe"]


class Credit(unittest.TestCase):
    def lacks(self, machine, step, name):
        before = (standing(machine), machine.steps())
        self.assertEqual(raised(self, NoCredit, machine.step, step).name, name)
        self.assertEqual((standing(machine), machine.steps()), before)

    def test_just_enough_and_one_too_small(self):
        self.assertEqual(over_one([9] * 6).over("a"), OVER)
        for at, name in enumerate(OVER):
            for step in (("put", "a", 5, 1, False), ("put", "a", 1, 5, False), ("put", "a", 5, 1, False)):
                credits = [9] * 6
                credits[at] = 5
                after(over_one(credits), step)
                credits[at] = 4
                self.lacks(Machine(over_one(credits)), step, name)

    def test_the_first_pool_that_lacks_by_itself(self):
        # The pipe lacks credit for the second frame, the others for later ones.
        plan = over_one([9, 9, 5, 9, 4, 3])
        machine = after(plan, ("begin", "a", 10, False))
        self.lacks(machine, ("send", "a", 2, 5), "a")
        self.lacks(machine, ("send", "a", 1, 9), "hout")
        self.lacks(machine, ("send", "a", 1, 5), "kout")
        self.lacks(machine, ("send", "a", 4, 1), "pipe")
        machine.step(("send", "a", 3, 1))
        self.lacks(machine, ("send", "a", 1, 1), "pipe")

    def test_in_the_middle_of_a_step_of_many(self):
        # Of amounts of 4 letters this pool withholds 0, 1, then 2; of 3 letters 0, then 3; of single ones at most 3.
        for moment in ("come", "read"):
            plan = Plan((5, at_least(4, 3), moment), {}, {}, {"a": (LONG, SOON, None, None, None, None)})
            for size, enough in ((3, 1), (4, 2), (5, 1)):
                self.assertEqual(after(plan, ("pass", "a", size, enough)).withheld_of("pipe"), 3 if size == 3 else 2)
                self.lacks(Machine(plan), ("pass", "a", size, enough + 1), "pipe")
                self.lacks(Machine(plan), ("pass", "a", size, LONG), "pipe")
            self.lacks(Machine(plan), ("pass", "a", 6, 1), "pipe")
            self.assertEqual(after(plan, ("pass", "a", 1, LONG)).withheld_of("pipe"), 1 + (LONG - 4) % 3)
            after(plan, ("pass", "a", 2, LONG))
        plan = plan.with_pool("pipe", moment="come")
        for word, rest in (("put", (False,)), ("send", ())):
            machine = after(plan, ("begin", "a", 99, False)) if word == "send" else Machine(plan)
            self.lacks(machine, (word, "a", 4, 3) + rest, "pipe")
            machine.step((word, "a", 4, 2) + rest)
            self.assertEqual(machine.left_of("pipe"), 3)
            self.lacks(machine, (word, "a", 4, 1) + rest, "pipe")
            machine.step((word, "a", 3, 1) + rest)

    def test_letters_that_come_or_are_read(self):
        pools = {"house": (4, at_least(3), "come", None), "hall": (6, at_least(3), "read", None)}
        streams = {"a": (6, SOON, None, "house", None, None), "b": (6, SOON, None, "hall", None, None)}
        machine = after(Plan((9, SOON, "come"), pools, {}, streams), ("put", "a", 2, 1, False))
        self.assertEqual([machine.left_of("house"), machine.unpassed_of("house"), machine.withheld_of("house")],
                         [2, 0, 2])
        self.assertEqual([machine.left_of("a"), machine.unpassed_of("a"), machine.withheld_of("a")], [4, 2, 0])
        self.assertEqual([machine.left_of("pipe"), machine.unpassed_of("pipe")], [9, 0])
        self.lacks(machine, ("put", "a", 3, 1, False), "house")
        machine.step(("put", "a", 2, 2, False))
        self.assertEqual([machine.left_of("house"), machine.withheld_of("house")], [2, 2])
        machine.step(("read", "a", 6, 1))
        self.assertEqual([machine.left_of("house"), machine.withheld_of("house"), machine.left_of("a")], [2, 2, 6])
        machine.step(("put", "b", 3, 2, False))
        self.assertEqual([machine.left_of("hall"), machine.unpassed_of("hall")], [0, 6])
        machine.step(("read", "b", 2, 1))
        self.assertEqual([machine.left_of("hall"), machine.unpassed_of("hall"), machine.withheld_of("hall")], [0, 4, 2])
        machine.step(("read", "b", 1, 2))
        self.assertEqual([machine.left_of("hall"), machine.unpassed_of("hall"), machine.withheld_of("hall")], [3, 2, 1])

    def test_what_is_read_together_is_one_amount(self):
        plan = Plan((30, at_least(2, 2), "read"), {}, {}, {
            "a": (30, SOON, None, None, None, None), "b": (30, SOON, 9, None, None, None)})
        machine = after(plan, ("put", "a", 3, 2, False))
        machine.step(("read", "a", 5, 1))
        self.assertEqual(machine.withheld_of("pipe"), 1)
        machine.back()
        machine.step(("read", "a", 1, 5))
        self.assertEqual(machine.withheld_of("pipe"), 1)
        wide = plan.with_pool("pipe", rule=at_least(4))
        machine = after(wide, ("put", "a", 3, 2, False), ("read", "a", 3, 2))
        self.assertEqual(machine.withheld_of("pipe"), 0)
        machine = after(wide, ("put", "a", 3, 2, False), ("read", "a", 5, 1), ("read", "a", 1, 1))
        self.assertEqual(machine.withheld_of("pipe"), 1)
        machine = after(wide, ("put", "b", 3, 1, False), ("put", "b", 1, 1, False), ("put", "b", 2, 1, False),
                        ("fetch", "b", 3))
        self.assertEqual([machine.withheld_of("pipe"), machine.left_of("pipe"), machine.left_of("b")], [2, 28, 30])


class Streams(unittest.TestCase):
    def test_what_lies_at_a_stream_read_in_any_parts(self):
        machine = after(guided(), ("put", "a", 2, 2, False), ("begin", "a", 7, False), ("send", "a", 1, 3))
        self.assertEqual([machine.lying("a"), machine.hand("a"), machine.readable("a")],
                         [[(7, False)], (7, 3, False), 7])
        machine.step(("send", "a", 4, 1))
        machine.step(("put", "a", 2, 2, True))
        machine.step(("put", "a", 1, 1, True))
        machine.step(("put", "a", 1, 4, False))
        self.assertEqual([machine.lying("a"), machine.readable("a")], [[(11, False), (5, True), (4, False)], 11])
        machine.step(("read", "a", 5, 2))
        self.assertEqual(machine.lying("a"), [(1, False), (5, True), (4, False)])
        machine.step(("read", "a", 1, 1))
        self.assertEqual([machine.lying("a"), machine.readable("a")], [[(5, True), (4, False)], 0])
        self.assertEqual([machine.counts("a"), machine.sent()], [(20, 11, 10), 20])

    def test_what_lies_at_a_stream_read_whole(self):
        machine = after(guided(), ("put", "b", 2, 2, False), ("put", "b", 2, 1, False), ("put", "b", 3, 1, False),
                        ("begin", "b", 3, False), ("send", "b", 2, 1))
        self.assertEqual([machine.lying("b"), machine.hand("b"), machine.readable("b")],
                         [[(2, 3, False), (3, 1, False)], (3, 2, False), 4])
        self.assertEqual(machine.counts("b"), (11, 0, 4))
        machine.step(("send", "b", 1, 1))
        self.assertEqual([machine.lying("b"), machine.hand("b"), machine.readable("b")],
                         [[(2, 3, False), (3, 2, False)], None, 5])
        machine.step(("fetch", "b", 4))
        self.assertEqual([machine.lying("b"), machine.counts("b")], [[(3, 1, False)], (12, 9, 5)])
        machine.step(("put", "b", 3, 1, True))
        machine.step(("put", "b", 3, 2, False))
        self.assertEqual([machine.lying("b"), machine.readable("b")], [[(3, 1, False), (3, 1, True), (3, 2, False)], 1])

    def test_messages_that_wait(self):
        machine = after(guided(), ("begin", "g", 2, False), ("send", "g", 1, 1),
                        ("put", "a", 3, 1, True), ("put", "b", 3, 2, True), ("put", "b", 3, 1, False),
                        ("begin", "a", 5, True), ("send", "a", 2, 1), ("put", "c", 1, 1, False))
        self.assertEqual([machine.lying("a"), machine.hand("a"), machine.readable("a")], [[(5, True)], (5, 2, True), 0])
        self.assertEqual([machine.lying("b"), machine.readable("b")], [[(3, 2, True), (3, 1, False)], 0])
        # A message of the guide that was begun ahead of them, or behind them, releases them at its end.
        machine.step(("send", "g", 1, 1))
        self.assertEqual([machine.lying("a"), machine.hand("a"), machine.readable("a")],
                         [[(5, False)], (5, 2, False), 5])
        self.assertEqual([machine.lying("b"), machine.readable("b")], [[(3, 3, False)], 3])
        machine.step(("send", "a", 3, 1))
        machine.step(("put", "a", 1, 1, True))
        self.assertEqual(machine.lying("a"), [(8, False), (1, True)])
        machine.step(("begin", "g", 2, False))
        machine.step(("send", "g", 1, 1))
        self.assertEqual(machine.lying("a"), [(8, False), (1, True)])

    def test_each_way_to_end_a_message_of_the_guide(self):
        for ends in ([("put", "g", 3, 2, False)], [("pass", "g", 1, 1)],
                     [("begin", "g", 1, False), ("send", "g", 1, 1)]):
            machine = after(guided(), ("begin", "a", 4, True), ("put", "b", 2, 1, True), *ends)
            self.assertEqual([machine.hand("a"), machine.lying("b")], [(4, 0, False), [(2, 1, False)]])
            machine.step(("put", "b", 2, 1, True))
            self.assertEqual(machine.lying("b"), [(2, 1, False), (2, 1, True)])
        for others in ([("pass", "c", 1, 1)], [("put", "a", 1, 2, False)], [("begin", "g", 1, False)]):
            machine = after(guided(), ("put", "b", 2, 1, True), *others)
            self.assertEqual(machine.lying("b"), [(2, 1, True)])

    def test_a_message_released_ahead_of_its_first_letter(self):
        machine = after(guided(), ("begin", "a", 4, True), ("pass", "g", 1, 1), ("send", "a", 4, 1))
        self.assertEqual([machine.lying("a"), machine.readable("a")], [[(4, False)], 4])
        machine = after(guided(), ("pass", "g", 1, 1), ("begin", "a", 4, True), ("send", "a", 4, 1))
        self.assertEqual([machine.lying("a"), machine.readable("a")], [[(4, True)], 0])

    def test_passing_at_a_stream_of_each_kind(self):
        machine = after(guided(), ("pass", "a", 7, LONG), ("pass", "b", 5, 3), ("pass", "b", 2, 1))
        self.assertEqual([machine.counts("a"), machine.counts("b")], [(7 * LONG, 7 * LONG, LONG), (17, 17, 4)])
        self.assertEqual([machine.lying("a"), machine.lying("b"), machine.sent()], [[], [], 7 * LONG + 17])

    def test_what_was_returned_belongs_to_the_caller(self):
        machine = after(guided(), ("put", "a", 2, 2, False), ("put", "b", 2, 2, False))
        before = (standing(machine), machine.steps())
        for returned in (machine.lying("a"), machine.lying("b"), machine.steps()):
            returned.append(None)
            returned.reverse()
        self.assertEqual((standing(machine), machine.steps()), before)


class Back(unittest.TestCase):
    steps = [("pass", "a", 2, 3), ("begin", "a", 4, True), ("send", "a", 1, 3), ("put", "b", 5, 2, True),
             ("put", "b", 1, 1, False), ("begin", "g", 2, False), ("send", "g", 2, 1), ("read", "a", 1, 2),
             ("fetch", "b", 2), ("put", "c", 3, 2, False), ("fetch", "c", 1), ("pass", "b", 3, 1)]

    def test_from_each_kind_of_step(self):
        machine, seen = Machine(guided()), []
        raised(self, Nothing, machine.back)
        for step in self.steps[:-1]:
            seen.append((standing(machine), machine.sent()))
            machine.step(step)
        for step in reversed(self.steps[:-1]):
            self.assertEqual(len(machine), len(seen))
            self.assertEqual(machine.back(), step)
            self.assertEqual((standing(machine), machine.sent()), seen.pop())
        raised(self, Nothing, machine.back)
        self.assertEqual(machine, Machine(guided()))

    def test_other_steps_behind_it(self):
        machine = after(guided(), *self.steps[:7])
        machine.back()
        machine.step(("send", "g", 1, 1))
        machine.step(("put", "b", 1, 1, False))
        other = after(guided(), *self.steps[:6], ("send", "g", 1, 1), ("put", "b", 1, 1, False))
        self.assertEqual(standing(machine), standing(other))
        self.assertEqual(machine, other)
        self.assertEqual(machine.lying("a"), [(3, True)])

    def test_copies_go_on_by_themselves(self):
        machine = after(guided(), *self.steps[:5])
        copy = machine.copied()
        self.assertEqual([copy, standing(copy)], [machine, standing(machine)])
        copy.step(self.steps[5])
        self.assertNotEqual(copy, machine)
        self.assertEqual([len(copy), len(machine)], [6, 5])
        machine.step(("pass", "c", 1, 1))
        machine.back()
        machine.back()
        self.assertEqual(standing(copy), standing(after(guided(), *self.steps[:6])))
        self.assertEqual(standing(machine), standing(after(guided(), *self.steps[:4])))
        self.assertEqual([copy.back(), copy.back(), copy.back()], list(reversed(self.steps[3:6])))

    def test_equality(self):
        plan = guided()
        self.assertEqual(Machine(plan), Machine(guided()))
        self.assertNotEqual(Machine(plan), Machine(guided(41)))
        one, other = after(plan, ("begin", "a", 2, False)), after(plan, ("begin", "a", 2, True))
        self.assertNotEqual(one, other)
        # Machines that stand alike are unlike if other steps led there.
        one, other = after(plan, ("put", "a", 1, 2, False)), after(plan, *[("put", "a", 1, 1, False)] * 2)
        self.assertEqual(standing(one), standing(other))
        self.assertFalse(one == other)
        for thing in things() + [plan]:
            self.assertFalse(Machine(plan) == thing)
            self.assertTrue(Machine(plan) != thing)

    def test_what_is_kept(self):
        plan = guided()
        machine = after(plan, *self.steps[:3])
        self.assertEqual([machine.plan(), machine.steps(), len(machine)], [plan, self.steps[:3], 3])
        self.assertIsNone(machine.step(self.steps[3]))


class ByChance(unittest.TestCase):
    def test_against_plain_runs(self):
        pick = random.Random(40)
        done = lacking = 0
        for _ in range(150):
            plan = some_plan(pick)
            machine, plain = Machine(plan), Plain(plan)
            for _ in range(40):
                step = some_step(pick, plan, machine)
                due = None
                if not plain.ready(step):
                    due = (Unready, step[1])
                elif plain.lacking(step) is not None:
                    due = (NoCredit, plain.lacking(step))
                    lacking += 1
                try:
                    machine.step(step)
                    found = None
                except PipeError as error:
                    found = (error.__class__, getattr(error, "stream", getattr(error, "name", None)))
                self.assertEqual(found, due, step)
                if due is None:
                    plain.do(step, plan.over(step[1]))
                    done += 1
                self.assertEqual(standing(machine), plain.standing())
        self.assertGreater(min(done, lacking), 300)

    def test_back_by_chance(self):
        pick = random.Random(41)
        for _ in range(40):
            plan = some_plan(pick)
            machine = Machine(plan)
            seen = [standing(machine)]
            for _ in range(60):
                if pick.random() < 0.3 and len(machine) > 0:
                    seen.pop()
                    last = machine.steps()[-1]
                    self.assertEqual(machine.back(), last)
                elif does(machine, some_step(pick, plan, machine)):
                    seen.append(standing(machine))
                self.assertEqual(standing(machine), seen[-1])
                self.assertEqual(len(machine), len(seen) - 1)

    def test_steps_of_many_and_many_steps(self):
        pick = random.Random(42)
        found = {True: 0, False: 0}
        while min(found.values()) < 60:
            plan = some_plan(pick)
            machine = Machine(plan)
            for _ in range(pick.randint(0, 6)):
                does(machine, some_step(pick, plan, machine))
            step = some_step(pick, plan, machine)
            if step[0] == "begin":
                continue
            at = 2 if step[0] == "fetch" else 3
            many, small = pick.randint(2, 9), machine.copied()
            done = does(machine, step[:at] + (many,) + step[at + 1:])
            self.assertEqual(all([does(small, step[:at] + (1,) + step[at + 1:]) for _ in range(many)]), done)
            if done:
                self.assertEqual(standing(small), standing(machine))
            found[done] += 1


class GreatNumbers(unittest.TestCase):
    def test_against_what_must_come(self):
        rule = at_least(7, 3)
        many = LONG // 9
        plan = Plan((LONG, rule, "read"), {"home": (LONG, rule, "come", None)}, {}, {
            "a": (LONG, rule, None, "home", None, None), "b": (LONG, SOON, many, None, None, None)})
        machine = after(plan, ("put", "a", 3, many, False))
        self.assertEqual([machine.left_of("pipe"), machine.left_of("a"), machine.lying("a")],
                         [LONG - 3 * many, LONG - 3 * many, [(3 * many, False)]])
        machine.step(("read", "a", 1, many))
        self.assertEqual([machine.unpassed_of("a"), machine.withheld_of("a")], [2 * many, 4 + (many - 7) % 3])
        machine.step(("put", "b", 10 ** 9, 10 ** 20, False))
        machine.step(("begin", "b", many, False))
        machine.step(("send", "b", many // 10 ** 20, 10 ** 20))
        machine.step(("fetch", "b", 10 ** 20 - 1))
        self.assertEqual([machine.lying("b"), machine.hand("b")],
                         [[(10 ** 9, 1, False)], (many, many // 10 ** 20 * 10 ** 20, False)])

    def test_great_and_small_steps(self):
        pick = random.Random(43)
        for _ in range(60):
            rules = [rule_of(pick, 3, 30) for _ in range(3)]
            size = pick.randint(1, 40)
            for moment in ("come", "read"):
                plan = Plan((100, rules[0], moment), {"home": (90, rules[1], moment, None)}, {},
                            {"a": (80, rules[2], None, "home", None, None)})
                many = 600
                great, small = Machine(plan), Machine(plan)
                done = does(great, ("pass", "a", size, many))
                self.assertEqual(all([does(small, ("pass", "a", size, 1)) for _ in range(many)]), done)
                if done:
                    self.assertEqual(standing(great), standing(small))
                    great.step(("pass", "a", size, LONG))
                    self.assertEqual(great.counts("a")[2], LONG + many)

    def test_a_long_run(self):
        plan = guided(LONG)
        machine = Machine(plan)
        for at in range(3000):
            machine.step(("put", "b", 1 + at % 2, 1, at % 3 == 0))
        self.assertEqual(len(machine.lying("b")), 3000)
        machine.step(("pass", "g", 1, 1))
        machine.step(("fetch", "b", 2999))
        self.assertEqual(machine.lying("b"), [(2, 1, False)])
        for _ in range(3000):
            machine.back()
        self.assertEqual(machine.lying("b"), [(1, 1, True), (2, 1, False)])
