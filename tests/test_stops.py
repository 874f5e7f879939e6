"""Which streams can be stopped, and with how few letters."""

import itertools
import random
import unittest

from given import SOON, example, further_slow, great, mixed, other_names, renamed, with_rules
from plain import some_plan, some_slow
from search import slow_sets_of, small_searches
from sharedpipe.errors import BadSlow, IsSlow, Unknown
from sharedpipe.fills import filled
from sharedpipe.plans import Plan
from sharedpipe.rules import at_least
from sharedpipe.stops import can_fill, can_stop, fewest_letters, stopping
from values import raised, things


def answers(plan, slow):
    """Return all that the functions say of some slow streams."""
    quick = [stream for stream in plan.streams() if stream not in slow]
    return ([can_fill(plan, name, slow) for name in plan.shared()], [can_stop(plan, stream, slow) for stream in quick],
            stopping(plan, slow), [fewest_letters(plan, stream, slow) for stream in quick])


class Stops(unittest.TestCase):
    def test_the_example(self):
        plan = example()
        self.assertEqual(answers(plan, ["a"]), ([False, True], [True], ["b"], [6]))
        self.assertEqual(answers(plan, ["b"]), ([False, False], [False], [], [None]))
        self.assertEqual(answers(plan, []), ([False, False], [False, False], [], [None, None]))
        for credit, stops in ((7, True), (8, False)):
            self.assertIs(can_stop(plan.with_pool("pipe", credit=credit), "b", ["a"]), stops)

    def test_each_pool_with_credit_just_enough_and_one_too_small(self):
        # Streams c and d lie under all shared pools; e and f under home and the pipe.
        slow = ["a", "c"]
        for name, over in (("sort", "ad"), ("room", "d"), ("home", "def"), ("pipe", "bdef")):
            plan = mixed(300, 300, 300).with_pool("room", credit=300)
            self.assertEqual(answers(plan, slow), ([False] * 4, [False] * 4, [], [None] * 4))
            least = plan[name][1].threshold + filled(plan, name, slow)
            enough = plan.with_pool(name, credit=least)
            self.assertEqual(answers(enough, slow), ([False] * 4, [False] * 4, [], [None] * 4))
            small = plan.with_pool(name, credit=least - 1)
            quick = [stream for stream in over if stream not in slow]
            self.assertEqual(stopping(small, slow), quick)
            self.assertEqual([other for other in plan.shared() if can_fill(small, other, slow)], [name])
            for stream in "bdef":
                self.assertIs(can_stop(small, stream, slow), stream in quick)
                self.assertEqual(fewest_letters(small, stream, slow), least - 1 if stream in quick else None)

    def test_what_a_pool_can_hold_counts(self):
        # The pipe: its threshold 5, f in hand 2, e as its own credit 5, d in hand 3, b nothing.
        for credit, stops in ((14, list("abcdef")), (15, [])):
            self.assertEqual(stopping(mixed(credit, 300, 300), []), stops)
        for credit, stops in ((20, list("acdef")), (21, [])):
            self.assertEqual(stopping(mixed(credit, 300, 300), ["b"]), stops)

    def test_pools_bound_each_other(self):
        plan = mixed(300, 300, 300).with_pool("room", credit=300)
        self.assertIs(can_fill(plan.with_pool("pipe", credit=14), "pipe", []), True)
        # The house and the kind hold less than the streams in them: then less is enough.
        small = plan.with_pool("home", credit=4)
        self.assertIs(can_fill(small.with_pool("pipe", credit=9), "pipe", []), False)
        self.assertIs(can_fill(small.with_pool("pipe", credit=8), "pipe", []), True)
        self.assertEqual(stopping(small.with_pool("pipe", credit=9), []), list("cdef"))

    def test_the_fewest_letters_are_those_of_the_least_pool(self):
        plan = mixed(13, 9, 6)
        self.assertEqual([fewest_letters(plan, stream, []) for stream in "abcdef"], [6, 13, 6, 6, 9, 9])
        self.assertEqual(fewest_letters(plan.with_pool("room", credit=3), "c", []), 3)
        self.assertEqual(fewest_letters(plan.with_pool("sort", credit=7), "c", []), 9)

    def test_pools_with_the_moment_come_stand_never_full(self):
        streams = {"a": (4, SOON, None, "home", None, None), "b": (4, SOON, None, "home", None, None)}
        for moment, stops in (("read", True), ("come", False)):
            plan = Plan((3, at_least(3), moment), {"home": (5, at_least(5), moment, None)}, {}, streams)
            self.assertEqual([can_fill(plan, name, ["a"]) for name in ("home", "pipe")], [stops, stops])
            self.assertEqual(stopping(plan, ["a"]), ["b"] if stops else [])
            self.assertEqual(fewest_letters(plan, "b", ["a"]), 3 if stops else None)

    def test_one_that_comes_bounds_no_other(self):
        streams = {"a": (9, SOON, None, "home", None, None), "b": (4, SOON, None, None, None, None)}
        for moment, stops in (("read", []), ("come", ["b"])):
            plan = Plan((6, SOON, "read"), {"home": (5, SOON, moment, None)}, {}, streams)
            self.assertEqual(stopping(plan, ["a"]), stops)

    def test_streams_that_are_read_whole(self):
        for most, holding in ((1, 0), (2, 1), (5, 4)):
            streams = {"a": (9, SOON, most, None, None, None), "b": (9, SOON, most, None, None, None)}
            plan = Plan((2 * holding + 3, at_least(3), "read"), {}, {}, streams)
            self.assertEqual(stopping(plan, []), [])
            self.assertEqual(stopping(plan.with_pool("pipe", credit=2 * holding + 2), []), ["a", "b"])
            plan = plan.with_pool("pipe", credit=holding + 12)
            self.assertEqual(stopping(plan, ["a"]), [])
            self.assertEqual(stopping(plan.with_pool("pipe", credit=holding + 11), ["a"]), ["b"])

    def test_guides_and_what_follows_them(self):
        streams = {"a": (5, SOON, None, None, None, "g"), "b": (6, SOON, 2, None, None, "g"),
                   "g": (7, SOON, None, None, None, None)}
        plan = Plan((12, SOON, "read"), {}, {}, streams)
        for slow in ([], ["a"], ["b"], ["a", "b"]):
            self.assertEqual(stopping(plan, slow), [])
            self.assertEqual(stopping(plan.with_pool("pipe", credit=11), slow), [s for s in "abg" if s not in slow])

    def test_a_pool_under_which_all_are_slow_stops_none(self):
        streams = {"a": (5, SOON, None, "home", None, None), "b": (5, SOON, None, "home", None, None),
                   "c": (5, SOON, None, None, None, None)}
        plan = Plan((20, SOON, "read"), {"home": (2, SOON, "read", None)}, {"void": (1, at_least(9), "read", None)},
                    streams)
        self.assertEqual([can_fill(plan, "home", slow) for slow in (["a"], ["b"], ["a", "b"], [])],
                         [True, True, False, False])
        self.assertIs(can_fill(plan, "void", []), False)
        self.assertEqual([stopping(plan, slow) for slow in (["a"], ("b", "a"))], [["b"], []])

    def test_a_threshold_above_the_credit(self):
        streams = {"a": (5, SOON, None, "home", None, None), "b": (5, SOON, None, None, None, None)}
        plan = Plan((20, SOON, "read"), {"home": (2, at_least(3), "read", None)}, {}, streams)
        self.assertEqual([stopping(plan, []), fewest_letters(plan, "a", []), fewest_letters(plan, "b", [])],
                         [["a"], 2, None])
        self.assertEqual(stopping(plan, ["a"]), [])

    def test_great_numbers(self):
        plan = great()
        third = 10 ** 38
        slow = ["a", "b", "e"]
        self.assertEqual(filled(plan, "pipe", slow), third // 2 + third + 9 + third - 1)
        self.assertEqual(stopping(plan, slow), ["c", "d"])
        self.assertEqual([fewest_letters(plan, stream, slow) for stream in "cdf"], [third // 2, third // 2, None])
        small = plan.with_pool("pipe", credit=3 * third + third // 2 + 7)
        self.assertEqual(stopping(small, slow), ["c", "d", "f"])
        self.assertEqual(fewest_letters(small, "f", slow), 3 * third + third // 2 + 7)
        self.assertEqual(stopping(plan.with_pool("pipe", credit=3 * third + third // 2 + 8), slow), ["c", "d"])


class Errors(unittest.TestCase):
    def test_names(self):
        plan = example()
        for name in ["a", "b", "z", "Pipe", 0] + things():
            for slow in (["a"], ["z"], []):
                self.assertIs(raised(self, Unknown, can_fill, plan, name, slow).name, name)
        for name in ["home", "pipe", "z", "A", 0] + things():
            for slow in (["a"], ["z"], []):
                for call in (can_stop, fewest_letters):
                    self.assertIs(raised(self, Unknown, call, plan, name, slow).name, name)

    def test_slow_sets_that_are_none(self):
        plan = mixed()
        bad = [["f"], ["a", "a"], ["z"], ["home"], ["pipe"], list("abcdef"), ["a", None], "a", {"a"}, {"a": 1},
               ["a", "f"]]
        for slow in bad + [thing for thing in things() if thing not in ([], ())]:
            raised(self, BadSlow, can_fill, plan, "pipe", slow)
            raised(self, BadSlow, stopping, plan, slow)
            for call in (can_stop, fewest_letters):
                # Ahead of IsSlow, too.
                raised(self, BadSlow, call, plan, "a", slow)

    def test_streams_that_are_slow(self):
        plan = mixed()
        for slow in (["a"], ["b", "a"], ("a", "c", "d")):
            for call in (can_stop, fewest_letters):
                self.assertEqual(raised(self, IsSlow, call, plan, "a", slow).stream, "a")
                self.assertIn(call(plan, "f", slow), (True, False, None, 5, 9, 12, 30))


class Laws(unittest.TestCase):
    def test_against_all_runs(self):
        pick = random.Random(70)
        stops = 0
        for search in small_searches(pick, 70):
            plan = search.plan
            for slow in slow_sets_of(plan):
                fewest = search.fewest(slow)
                self.assertEqual(stopping(plan, slow), sorted(fewest))
                for stream in plan.streams():
                    if stream not in slow:
                        self.assertIs(can_stop(plan, stream, slow), stream in fewest)
                        self.assertEqual(fewest_letters(plan, stream, slow), fewest.get(stream))
                for name in plan.shared():
                    quick = [stream for stream in plan.under(name) if stream not in slow]
                    full = any([search.is_full(moment, name, slow) for moment in search.letters])
                    self.assertIs(can_fill(plan, name, slow), full and quick != [])
                stops += len(fewest)
        self.assertGreater(stops, 80)

    def test_more(self):
        pick = random.Random(10)
        stops = 0
        for _ in range(150):
            plan = some_plan(pick)
            slow = some_slow(pick, plan)
            found = stopping(plan, slow)
            grown = further_slow(pick, plan, slow)
            self.assertEqual([s for s in found if s not in grown and s not in stopping(plan, grown)], [])
            richer = plan
            for stream in slow:
                richer = richer.with_pool(stream, credit=richer[stream][0] + pick.choice([0, 1, 5]))
            self.assertEqual([s for s in found if s not in stopping(richer, slow)], [])
            least = plan["pipe"][1].threshold if plan["pipe"][2] == "come" else 1
            for credit in range(least, plan["pipe"][0]):
                self.assertEqual([s for s in found if s not in stopping(plan.with_pool("pipe", credit=credit), slow)],
                                 [])
            stops += len(found)
        self.assertGreater(stops, 100)

    def test_less_credit_of_a_group_may_save_a_stream(self):
        streams = {"a": (9, SOON, None, "home", None, None), "b": (4, SOON, None, None, None, None)}
        plan = Plan((6, SOON, "read"), {"home": (6, SOON, "read", None)}, {}, streams)
        self.assertEqual(stopping(plan, ["a"]), ["b"])
        self.assertEqual(stopping(plan.with_pool("home", credit=5), ["a"]), [])

    def test_other_rules_with_the_same_thresholds(self):
        pick = random.Random(11)
        for _ in range(120):
            plan = some_plan(pick)
            other = with_rules(pick, plan)
            slow = some_slow(pick, plan)
            self.assertEqual(answers(plan, slow), answers(other, slow))

    def test_other_names(self):
        pick = random.Random(14)
        for _ in range(120):
            plan = some_plan(pick)
            names = other_names(pick, plan)
            slow = some_slow(pick, plan)
            fills, stops, found, fewest = answers(plan, slow)
            self.assertEqual(answers(renamed(plan, names), [names[name] for name in slow]),
                             (fills, stops, [names[name] for name in found], fewest))

    def test_nothing_is_changed_or_shared(self):
        plan, slow = mixed(13, 9, 6), ["c", "a", "b"]
        first = answers(plan, slow)
        stopping(plan, slow).append("z")
        self.assertEqual([slow, plan], [["c", "a", "b"], mixed(13, 9, 6)])
        for order in itertools.permutations(slow):
            for either in (order, list(order)):
                self.assertEqual(answers(plan, either), first)
        self.assertEqual(answers(mixed(13, 9, 6), slow), first)
        # The same parts come of other calls.
        self.assertEqual(answers(mixed(99, 9, 6).with_pool("pipe", credit=13), slow), first)
        names = {name: name for name in plan.houses() + plan.kinds() + plan.streams()}
        self.assertEqual(answers(plan.renamed(names), slow), first)
