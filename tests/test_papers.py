"""Runs that stop a stream, and papers that show that there is none."""

import itertools
import random
import unittest

from given import SOON, example, great, mixed, other_names, renamed, with_rules
from plain import does, some_plan, some_slow, some_step
from search import slow_sets_of, small_searches
from sharedpipe.covers import cover, cover_sum, is_cover
from sharedpipe.errors import BadSlow, IsSlow, Unknown
from sharedpipe.fullness import stopped
from sharedpipe.machine import Machine
from sharedpipe.papers import is_safe_paper, is_stop_run, safe_paper, stop_run
from sharedpipe.plans import Plan
from sharedpipe.reader import Reader
from sharedpipe.rules import at_least
from sharedpipe.runs import is_run, letters, played
from sharedpipe.sender import Sender
from sharedpipe.stops import can_stop, fewest_letters, stopping
from values import raised, things

# The run of the document's examples, behind which b is stopped if a is slow.
RUN = [("pass", "b", 1, 1), ("put", "a", 4, 1, False), ("begin", "b", 3, False), ("send", "b", 1, 1)]


class Checks(unittest.TestCase):
    def check(self, plan, slow):
        """Check what is said of all streams that are not slow, and return how many can be stopped."""
        stops = 0
        for stream in plan.streams():
            if stream in slow:
                continue
            run, paper = stop_run(plan, stream, slow), safe_paper(plan, stream, slow)
            if can_stop(plan, stream, slow):
                self.assertIsNone(paper)
                self.assertIsInstance(run, list)
                self.assertLessEqual(len(run), 20)
                self.assertEqual(letters(run), fewest_letters(plan, stream, slow))
                self.assertIn(stream, stopped(played(plan, run), slow))
                self.assertIs(is_stop_run(plan, stream, slow, run), True)
                stops += 1
            else:
                self.assertIsNone(run)
                reads = [name for name in plan.over(stream)[1:] if plan[name][2] == "read"]
                self.assertEqual(list(paper), sorted(reads))
                for name, thing in paper.items():
                    self.assertTrue(is_cover(plan, name, slow, thing))
                    credit, rule, _ = plan[name]
                    self.assertLessEqual(cover_sum(plan, name, slow, thing), credit - rule.threshold)
                self.assertIs(is_safe_paper(plan, stream, slow, paper), True)
        return stops


class Runs(Checks):
    def test_the_example(self):
        plan = example()
        self.assertEqual(self.check(plan, ["a"]), 1)
        self.assertEqual(self.check(plan, ["b"]), 0)
        wide = plan.with_pool("pipe", credit=8)
        self.assertEqual([can_stop(wide, "b", ["a"]), safe_paper(wide, "b", ["a"]), stop_run(wide, "b", ["a"])],
                         [False, {"pipe": ((), ("a", "b"))}, None])
        self.assertIs(is_stop_run(plan, "b", ["a"], RUN), True)
        self.assertIs(is_stop_run(plan, "b", ["a"], tuple(RUN)), True)
        self.assertIs(is_stop_run(plan, "b", [], RUN), False)
        self.assertIs(is_stop_run(plan, "a", [], RUN), False)
        self.assertIs(is_stop_run(plan, "a", ["b"], RUN), False)

    def test_each_pool_may_be_the_one(self):
        for credits in itertools.product((4, 9, 13, 40), repeat=3):
            for room in (2, 30):
                plan = mixed(*credits).with_pool("room", credit=room)
                for slow in ([], ["a"], ["b", "c"], ["e", "d"], list("abcde")):
                    self.check(plan, slow)

    def test_a_guide_passes_for_what_follows_it(self):
        # What the own pool of a stream with a guide withholds would be in the way of what it holds.
        streams = {"a": (5, at_least(4), None, None, None, "g"), "g": (4, at_least(2), 3, None, None, None)}
        for credit in (7, 8, 9, 10):
            plan = Plan((credit, at_least(4), "read"), {}, {}, streams)
            self.assertEqual(self.check(plan, []), 2)
            self.assertEqual(self.check(plan, ["a"]), 1)
        plan = Plan((11, at_least(4), "read"), {}, {}, streams)
        self.assertEqual(self.check(plan, []), 0)

    def test_credit_that_the_pool_withholds(self):
        streams = {"a": (4, SOON, None, "home", None, None), "b": (4, at_least(3), None, "home", None, None)}
        for credit in range(1, 10):
            plan = Plan((9, at_least(6), "read"), {"home": (credit, at_least(5), "read", None)}, {}, streams)
            self.assertEqual(self.check(plan, ["a"]), 1)
            self.assertEqual(stop_run(plan, "b", ["a"]) is None, credit > 9)

    def test_pools_that_letters_pass_when_they_come(self):
        streams = {"a": (9, SOON, None, "home", None, None), "b": (4, SOON, 3, "home", None, None)}
        for credit in range(3, 9):
            plan = Plan((credit, at_least(2), "read"), {"home": (3, at_least(3), "come", None)}, {}, streams)
            self.assertEqual(self.check(plan, ["a"]), 1)
        plan = Plan((3, at_least(2), "come"), {"home": (3, at_least(3), "come", None)}, {}, streams)
        self.assertEqual([safe_paper(plan, "b", ["a"]), safe_paper(plan, "b", [])], [{}, {}])
        self.assertIs(is_safe_paper(plan, "b", ["a"], {}), True)

    def test_great_numbers(self):
        plan = great()
        for slow in ([], ["a"], ["a", "b", "e"], ["c", "f"], ["a", "b", "c", "e", "f"]):
            self.check(plan, slow)
            self.check(plan.with_pool("pipe", credit=10 ** 38 + 5), slow)
            self.check(plan.with_pool("out", credit=10 ** 38 - 5), slow)
        self.assertGreater(letters(stop_run(plan, "c", ["a", "b", "e"])), 10 ** 37)

    def test_against_all_runs(self):
        pick = random.Random(71)
        stops = 0
        for search in small_searches(pick, 60):
            for slow in slow_sets_of(search.plan):
                fewest = search.fewest(slow)
                for stream, many in fewest.items():
                    # No run sends fewer letters.
                    self.assertEqual(letters(stop_run(search.plan, stream, slow)), many)
                stops += self.check(search.plan, slow)
        self.assertGreater(stops, 80)

    def test_plans_chosen_by_chance(self):
        pick = random.Random(72)
        self.assertGreater(sum([self.check(plan, some_slow(pick, plan)) for plan in
                                [some_plan(pick) for _ in range(250)]]), 150)

    def test_all_rules_with_the_same_thresholds_take_the_same_letters(self):
        pick = random.Random(73)
        for _ in range(60):
            plan = some_plan(pick)
            slow = some_slow(pick, plan)
            self.assertEqual(self.check(plan, slow), self.check(with_rules(pick, plan), slow))

    def test_other_names(self):
        pick = random.Random(74)
        for _ in range(60):
            plan = some_plan(pick)
            names = other_names(pick, plan)
            slow = some_slow(pick, plan)
            other, like = renamed(plan, names), [names[name] for name in slow]
            self.check(other, like)
            for stream in plan.streams():
                if stream in slow:
                    continue
                run, paper = stop_run(plan, stream, slow), safe_paper(plan, stream, slow)
                if run is not None:
                    run = [step[:1] + (names[step[1]],) + step[2:] for step in run]
                    self.assertTrue(is_stop_run(other, names[stream], like, run))
                else:
                    paper = {names[name]: tuple([tuple([names[one] for one in part]) for part in thing])
                             for name, thing in paper.items()}
                    self.assertTrue(is_safe_paper(other, names[stream], like, paper))


class StopRuns(unittest.TestCase):
    def test_more_letters_and_more_steps(self):
        plan = example()
        longer = [("pass", "b", 1, 9), ("put", "a", 1, 2, False), ("read", "a", 1, 2)] * 10 + RUN
        found = is_run(plan, longer)
        self.assertTrue(found)
        self.assertGreater(len(longer), 20)
        self.assertIs(is_stop_run(plan, "b", ["a"], longer), True)
        self.assertIs(is_stop_run(plan, "b", ["a"], longer[:-1]), False)
        self.assertIs(is_stop_run(plan, "b", ["a"], longer + [("read", "a", 1, 1)]), False)

    def test_things_put_otherwise(self):
        plan = example()
        tried, good = 0, []
        other = [None, 0, 1, 2, 3, 5, -1, True, False, "a", "b", "c", "put", "send", "pass", (1,), [], "home"]
        for at, step in enumerate(RUN):
            for place in range(len(step)):
                for thing in other:
                    changed = step[:place] + (thing,) + step[place + 1:]
                    run = RUN[:at] + [changed] + RUN[at + 1:]
                    machine = Machine(plan)
                    due = all([does(machine, each) for each in run]) and "b" in stopped(machine, ["a"])
                    self.assertIs(is_stop_run(plan, "b", ["a"], run), due, run)
                    tried += 1
                    if due and changed != step:
                        good.append(changed)
            for gone in (RUN[:at] + RUN[at + 1:], RUN[:at] + [RUN[at]] + RUN[at:],
                         RUN[:at] + [list(step)] + RUN[at + 1:]):
                self.assertIs(is_stop_run(plan, "b", ["a"], gone), False)
        self.assertGreater(tried, 200)
        self.assertEqual(good, [("pass", "a", 1, 1), ("pass", "b", 1, 3), ("pass", "b", 1, 5),
                                ("begin", "b", 2, False)])

    def test_two_things_put_otherwise(self):
        plan, pick = example(), random.Random(79)
        other = [None, 0, 1, 2, 3, 4, 5, True, False, "a", "b", "put", "send", "pass", "read"]
        found = 0
        for _ in range(3000):
            run = [list(step) for step in RUN]
            for _ in range(2):
                step = pick.choice(run)
                step[pick.randrange(len(step))] = pick.choice(other)
            run = [tuple(step) for step in run]
            machine = Machine(plan)
            due = all([does(machine, step) for step in run]) and "b" in stopped(machine, ["a"])
            self.assertIs(is_stop_run(plan, "b", ["a"], run), due, run)
            found += due
        self.assertGreater(found, 20)

    def test_other_values(self):
        plan = example()
        for thing in things() + [RUN[0], {0: RUN[0]}, iter(RUN), 7, "pass"]:
            self.assertIs(is_stop_run(plan, "b", ["a"], thing), False)

    def test_any_run_against_a_machine(self):
        pick = random.Random(75)
        found = 0
        for _ in range(250):
            plan = some_plan(pick, streams=pick.randint(2, 3), small=True)
            slow = some_slow(pick, plan)
            machine = Machine(plan)
            for _ in range(30):
                does(machine, some_step(pick, plan, machine))
                if stopped(machine, slow):
                    break
            for stream in plan.streams():
                if stream not in slow:
                    due = stream in stopped(machine, slow)
                    self.assertIs(is_stop_run(plan, stream, slow, machine.steps()), due)
                    if due:
                        found += 1
                        self.assertTrue(can_stop(plan, stream, slow))
                        self.assertGreaterEqual(machine.sent(), fewest_letters(plan, stream, slow))
        self.assertGreater(found, 60)


class Papers(unittest.TestCase):
    def plan(self):
        """Return a Plan and slow streams with which d is safe; one of the pools over it has the moment "come"."""
        return mixed(40, 30, 30, moment="come"), ["a", "c"]

    def test_the_paper(self):
        plan, slow = self.plan()
        paper = safe_paper(plan, "d", slow)
        self.assertEqual(list(paper), ["pipe", "room", "sort"])
        self.assertEqual(paper, {name: cover(plan, name, slow) for name in paper})
        self.assertIs(is_safe_paper(plan, "d", slow, paper), True)
        self.assertIs(is_safe_paper(plan, "d", slow, dict(reversed(list(paper.items())))), True)

    def test_covers_that_are_not_the_least(self):
        plan, slow = self.plan()
        paper = safe_paper(plan, "d", slow)
        # Of the pipe: its credit less its threshold is 35; a 5, c 6, d 3, e 5, f 2 are 21.
        for thing, due in ((((), tuple("acdef")), True), (((), tuple("abcdef")), True),
                           ((("room",), tuple("aef")), True),
                           ((("sort",), tuple("cdef")), False), ((("room", "sort"), tuple("ef")), False),
                           (((), tuple("acde")), False), ((("home",), tuple("a")), False)):
            self.assertIs(is_safe_paper(plan, "d", slow, {**paper, "pipe": thing}), due, thing)
        # With just so much credit it holds, with one less it does not.
        thing = {**paper, "pipe": (("room",), tuple("aef"))}
        for credit, due in ((37, True), (36, False)):
            self.assertIs(is_safe_paper(plan.with_pool("pipe", credit=credit), "d", slow, thing), due)

    def test_things_put_otherwise(self):
        plan, slow = self.plan()
        paper = safe_paper(plan, "d", slow)
        bad = [{**paper, "home": ((), ())}, {**paper, "d": ((), ())}, {**paper, None: ((), ())}, {**paper, 0: 0},
               list(paper), list(paper.items()), tuple(paper.items())]
        for name, thing in paper.items():
            rest = {other: paper[other] for other in paper if other != name}
            bad += [rest, {**rest, "home": thing}, {**rest, "z": thing}, {**rest, None: thing}]
            bad += [{**paper, name: other} for other in (list(thing), thing[:1], thing + ((),), None, (), ("", ""),
                                                         thing[::-1])]
            bad += [{**paper, name: (thing[0], thing[1][1:])}, {**paper, name: (thing[0], list(thing[1]))},
                    {**paper, name: (thing[0], thing[1][::-1])}, {**paper, name: (thing[0] + (name,), thing[1])},
                    {**paper, name: (thing[0] + ("home",), thing[1])}, {**paper, name: (thing[0], thing[1] + ("z",))}]
        for thing in bad + things():
            self.assertIs(is_safe_paper(plan, "d", slow, thing), False, thing)
        for name, thing in itertools.product(paper, things()):
            self.assertIs(is_safe_paper(plan, "d", slow, {**paper, name: thing}), False)

    def test_two_things_put_otherwise(self):
        plan, slow = mixed(80, 30, 60, moment="come").with_pool("room", credit=100), ["a", "c"]
        pick = random.Random(80)
        found = 0
        for _ in range(2000):
            paper = {name: [list(part) for part in thing] for name, thing in safe_paper(plan, "d", slow).items()}
            for _ in range(2):
                at = pick.randint(0, 1)
                part = pick.choice(list(paper.values()))[at]
                name = pick.choice([plan.shared(), plan.streams()][at] + ["z"])
                if part and pick.random() < 0.5:
                    part[pick.randrange(len(part))] = name
                else:
                    part.insert(pick.randint(0, len(part)), name)
                if pick.random() < 0.7:
                    part.sort()
            paper = {name: tuple([tuple(part) for part in thing]) for name, thing in paper.items()}
            due = all([is_cover(plan, name, slow, thing)
                       and cover_sum(plan, name, slow, thing) <= plan[name][0] - plan[name][1].threshold
                       for name, thing in paper.items()])
            self.assertIs(is_safe_paper(plan, "d", slow, paper), due)
            found += due
        self.assertGreater(found, 20)

    def test_no_paper_for_what_can_be_stopped(self):
        pick = random.Random(76)
        tried = 0
        for _ in range(150):
            plan = some_plan(pick)
            slow = some_slow(pick, plan)
            for stream in stopping(plan, slow):
                names = sorted([name for name in plan.over(stream)[1:] if plan[name][2] == "read"])
                thing = {name: cover(plan, name, slow) for name in names}
                self.assertIs(is_safe_paper(plan, stream, slow, thing), False)
                tried += 1
        self.assertGreater(tried, 100)

    def test_a_paper_of_another_stream_or_plan(self):
        plan, slow = self.plan()
        paper = safe_paper(plan, "d", slow)
        self.assertIs(is_safe_paper(plan, "f", slow, paper), False)
        self.assertIs(is_safe_paper(plan, "d", ["a", "b", "c", "e"], paper), False)
        self.assertIs(is_safe_paper(plan.with_pool("pipe", credit=20), "d", slow, paper), False)
        self.assertIs(is_safe_paper(plan.with_pool("home", moment="read"), "d", slow, paper), False)


class Errors(unittest.TestCase):
    def calls(self, plan, stream, slow):
        """Return calls of all functions with these arguments."""
        return [lambda: stop_run(plan, stream, slow), lambda: safe_paper(plan, stream, slow),
                lambda: is_stop_run(plan, stream, slow, RUN), lambda: is_safe_paper(plan, stream, slow, {}),
                lambda: is_stop_run(plan, stream, slow, None), lambda: is_safe_paper(plan, stream, slow, None)]

    def test_each_error_in_its_turn(self):
        plan = mixed()
        for name in ["home", "pipe", "z", 0] + things():
            for slow in (["a"], ["z"]):
                for call in self.calls(plan, name, slow):
                    self.assertIs(raised(self, Unknown, call).name, name)
        bad = [["f"], ["a", "a"], ["z"], list("abcdef"), "a", {"a": 1}, ["a", "f"]]
        for slow in bad + [thing for thing in things() if thing not in ([], ())]:
            for call in self.calls(plan, "a", slow):
                raised(self, BadSlow, call)
        for slow in (["a"], ("c", "a")):
            for call in self.calls(plan, "a", slow):
                self.assertEqual(raised(self, IsSlow, call).stream, "a")

    def test_nothing_is_changed_or_shared(self):
        plan, slow = mixed(13, 9, 6), ["c", "a"]
        first = [call() for call in self.calls(plan, "f", slow)]
        self.assertIsNotNone(first[0])
        stop_run(plan, "f", slow).clear()
        wide = mixed(400, 400, 400)
        paper = safe_paper(wide, "f", slow)
        kept = dict(paper)
        is_safe_paper(wide, "f", slow, paper)
        self.assertEqual(paper, kept)
        paper.clear()
        self.assertEqual(safe_paper(mixed(400, 400, 400), "f", ("a", "c")), kept)
        self.assertEqual([slow, plan], [["c", "a"], mixed(13, 9, 6)])
        for like in (mixed(13, 9, 6), mixed(99, 9, 6).with_pool("pipe", credit=13)):
            self.assertEqual([call() for call in self.calls(like, "f", slow)], first)


class Ends(unittest.TestCase):
    """What is stopped stays so, whatever is read at streams that are not slow."""

    def do(self, ends, step):
        """Let a Sender and a Reader do a step of a run that stops a stream."""
        sender, reader = ends
        word, stream = step[:2]
        if word == "begin":
            sender.write(stream, "x" * step[2], waits=step[3])
        elif word == "send":
            reader.take(sender.frame(stream, step[2] * step[3]))
            sender.take(reader.backs())
        else:
            for _ in range(step[3]):
                sender.write(stream, "y" * step[2], waits=word == "put" and step[4])
                reader.take(sender.frame(stream, step[2]))
                if word == "pass":
                    reader.read(stream, 1)
                sender.take(reader.backs())

    def test_senders_and_readers(self):
        pick = random.Random(77)
        stops = 0
        for _ in range(120):
            plan = some_plan(pick)
            slow = some_slow(pick, plan)
            for stream in stopping(plan, slow):
                ends = (Sender(plan), Reader(plan))
                machine = Machine(plan)
                for step in stop_run(plan, stream, slow):
                    self.do(ends, step)
                    machine.step(step)
                self.stays(pick, ends, machine, slow)
                stops += 1
        self.assertGreater(stops, 100)

    def stays(self, pick, ends, machine, slow):
        """Check that what is stopped stays so."""
        plan = machine.plan()
        sender, reader = ends
        still = stopped(machine, slow)
        for name in plan.shared() + plan.streams():
            self.assertEqual([sender.left_of(name), reader.left_of(name)], [machine.left_of(name)] * 2)
        for _ in range(12):
            stream = pick.choice(plan.streams())
            sender.write(stream, "z")
            text = sender.frame(stream, 9)
            self.assertTrue(text == "" or stream not in still)
            reader.take(text)
            quick = [other for other in plan.streams() if other not in slow and reader.readable(other)]
            if quick:
                other = pick.choice(quick)
                reader.read(other, pick.randint(1, reader.readable(other)))
            sender.take(reader.backs())

    def test_machines(self):
        pick = random.Random(78)
        stops = 0
        for _ in range(150):
            plan = some_plan(pick)
            slow = some_slow(pick, plan)
            for stream in stopping(plan, slow):
                machine = played(plan, stop_run(plan, stream, slow))
                still = stopped(machine, slow)
                self.assertIn(stream, still)
                for _ in range(15):
                    step = some_step(pick, plan, machine)
                    if step[0] in ("read", "fetch") and step[1] in slow:
                        continue
                    if step[0] == "begin" or not does(machine, step):
                        continue
                    self.assertFalse(step[0] in ("send", "put", "pass") and step[1] in still)
                    self.assertEqual([name for name in still if name not in stopped(machine, slow)], [])
                stops += 1
        self.assertGreater(stops, 100)
