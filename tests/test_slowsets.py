"""Slow sets by which streams can be stopped."""

import random
import time
import unittest

from given import SOON, example, great, mixed, other_names, renamed, with_rules
from plain import some_plan, some_slow
from search import slow_sets_of, small_searches
from sharedpipe.errors import Unknown, Unlike
from sharedpipe.formulas import raised as safe
from sharedpipe.plans import Plan
from sharedpipe.rules import at_least
from sharedpipe.slowsets import borne, parted, slow_sets
from sharedpipe.stops import can_stop, stopping
from values import raised, things


def four(pipe, home=99):
    """Return a Plan in which a, b and c can hold 5, 3 and 2 letters if they are slow, a and b in a house."""
    streams = {"a": (5, SOON, None, "home", None, None), "b": (3, SOON, None, "home", None, None),
               "c": (2, SOON, None, None, None, None), "d": (9, SOON, None, None, None, None)}
    return Plan((pipe, SOON, "read"), {"home": (home, SOON, "read", None)}, {}, streams)


def by_words(plan, stream):
    """Return what slow_sets has to return, worked out from the words of the document."""
    enough = [slow for slow in slow_sets_of(plan) if stream not in slow and can_stop(plan, stream, slow)]
    return sorted([slow for slow in enough if not any([set(other) < set(slow) for other in enough])])


def borne_by_words(plan):
    """Return what borne has to return."""
    sizes = [len(slow) for slow in slow_sets_of(plan) if stopping(plan, slow)]
    return min(sizes) - 1 if sizes else None


class SlowSets(unittest.TestCase):
    def test_the_example(self):
        plan = example()
        self.assertEqual([slow_sets(plan, "b"), slow_sets(plan, "a"), borne(plan)], [[("a",)], [], 0])

    def test_the_least_ones(self):
        self.assertEqual(slow_sets(four(5), "d"), [("a",), ("b", "c")])
        self.assertEqual(slow_sets(four(6), "d"), [("a", "b"), ("a", "c")])
        # Ascending, whichever has more streams.
        self.assertEqual(slow_sets(four(6).with_pool("c", credit=7), "d"), [("a", "b"), ("c",)])
        self.assertEqual(slow_sets(four(8), "d"), [("a", "b")])
        self.assertEqual(slow_sets(four(9), "d"), [("a", "b", "c")])
        self.assertEqual(slow_sets(four(10), "d"), [("a", "b", "c")])
        self.assertEqual(slow_sets(four(11), "d"), [])
        # Less credit of a group that is not over it may save a stream.
        self.assertEqual(slow_sets(four(8, 6), "d"), [("a", "b", "c")])
        self.assertEqual(slow_sets(four(6, 4), "d"), [("a", "c")])

    def test_slow_streams_without_the_stream_itself(self):
        plan = four(10)
        self.assertEqual([slow_sets(plan, stream) for stream in "abcd"],
                         [[("b", "d"), ("c", "d")], [("a", "d"), ("c", "d")], [("a", "d"), ("b", "d")],
                          [("a", "b", "c")]])
        self.assertEqual(borne(plan), 1)

    def test_without_any(self):
        plan = Plan((3, at_least(4), "read"), {}, {}, {"a": (5, SOON, None, None, None, None),
                                                       "b": (5, SOON, None, None, None, None)})
        self.assertEqual([slow_sets(plan, "a"), slow_sets(plan, "b"), borne(plan)], [[()], [()], -1])
        alone = Plan((3, SOON, "read"), {}, {}, {"a": (5, SOON, 4, None, None, None)})
        self.assertEqual([slow_sets(alone, "a"), borne(alone)], [[()], -1])

    def test_nothing_stops_any(self):
        self.assertEqual([slow_sets(four(11), "d"), borne(four(200))], [[], None])
        self.assertEqual(borne(four(5).with_pool("pipe", moment="come").with_pool("home", moment="come")), None)
        alone = Plan((4, SOON, "read"), {}, {}, {"a": (5, SOON, 4, None, None, None)})
        self.assertEqual([slow_sets(alone, "a"), borne(alone)], [[], None])

    def test_guides_are_never_slow(self):
        streams = {"a": (5, SOON, None, None, None, "g"), "b": (3, SOON, None, None, None, None),
                   "g": (9, SOON, None, None, None, None)}
        plan = Plan((8, SOON, "read"), {}, {}, streams)
        self.assertEqual([slow_sets(plan, stream) for stream in "abg"], [[("b",)], [], [("b",)]])
        self.assertEqual(slow_sets(plan.with_pool("pipe", credit=9), "g"), [])
        self.assertEqual(borne(plan), 0)

    def test_names(self):
        for name in ["home", "pipe", "z", 0] + things():
            self.assertIs(raised(self, Unknown, slow_sets, example(), name).name, name)

    def test_against_the_words(self):
        pick = random.Random(80)
        seen = set()
        for _ in range(100):
            plan = some_plan(pick)
            for stream in plan.streams():
                found = slow_sets(plan, stream)
                self.assertEqual(found, by_words(plan, stream))
                seen.add(len(found))
            self.assertEqual(borne(plan), borne_by_words(plan))
            seen.add(borne(plan))
        self.assertTrue({-1, 0, 1, 2, None} <= seen)

    def test_against_all_runs(self):
        pick = random.Random(81)
        for search in small_searches(pick, 40):
            plan = search.plan
            fewest = {slow: search.fewest(slow) for slow in slow_sets_of(plan)}
            sizes = [len(slow) for slow, found in fewest.items() if found]
            self.assertEqual(borne(plan), min(sizes) - 1 if sizes else None)
            for stream in plan.streams():
                least = slow_sets(plan, stream)
                for slow, found in fewest.items():
                    if stream not in slow:
                        self.assertEqual(stream in found, any([set(part) <= set(slow) for part in least]))


class Parted(unittest.TestCase):
    def test_the_least(self):
        self.assertEqual(parted(four(5), four(6)), (("a",), "b"))
        self.assertEqual(parted(four(6), four(5)), (("a",), "b"))
        self.assertEqual(parted(four(9), four(10)), (("d",), "a"))
        self.assertEqual(parted(four(7), four(8)), (("a", "c"), "b"))
        self.assertEqual(parted(four(8), four(9)), (("a", "b"), "c"))
        self.assertEqual(parted(four(10), four(10, 7)), (("a", "b", "c"), "d"))
        self.assertEqual(parted(four(10), four(10, 8)), None)
        self.assertEqual(parted(four(90), four(90, 5)), (("a",), "b"))
        self.assertEqual(parted(four(90), four(90, 3)), (("a",), "b"))
        plain = four(90).with_pool("home", rule=at_least(9), credit=8)
        self.assertEqual(parted(plain, four(90)), ((), "a"))

    def test_nothing_parts_them(self):
        self.assertIsNone(parted(four(20), four(30)))
        self.assertIsNone(parted(four(6), four(6)))
        self.assertIsNone(parted(four(9), four(9).with_pool("d", rule=at_least(3))))
        self.assertEqual(parted(four(9), four(9).with_pool("a", credit=6)), (("a", "b"), "c"))
        # Other groups, and streams that lie elsewhere, are no hindrance.
        streams = {name: (3, SOON, None, None, None, None) for name in "abcd"}
        self.assertEqual(parted(Plan((3, SOON, "read"), {}, {}, streams), four(90)), (("a",), "b"))
        self.assertIsNone(parted(Plan((30, SOON, "read"), {}, {}, streams), four(90)))

    def test_unlike_plans(self):
        one = mixed()
        pipe, houses, kinds, streams = one.parts()
        fewer = Plan(pipe, houses, kinds, {name: row for name, row in streams.items() if name != "b"})
        other = dict(streams)
        other["e"] = streams["e"][:5] + (None,)
        unguided = Plan(pipe, houses, kinds, other)
        for two in (fewer, unguided, one.renamed({**{name: name for name in "abcdef"}, "a": "aa", "home": "home",
                                                  "room": "room", "sort": "sort"}), example()):
            raised(self, Unlike, parted, one, two)
            raised(self, Unlike, parted, two, one)
        # The same guides of other streams are no hindrance.
        other["c"] = streams["c"][:3] + ("home", None, "f")
        self.assertIn(parted(one, Plan(pipe, houses, kinds, other)),
                      (None, parted(Plan(pipe, houses, kinds, other), one)))

    def test_against_the_words(self):
        pick = random.Random(82)
        found = []
        for _ in range(120):
            plan = some_plan(pick, ("read",), streams=pick.randint(2, 5))
            # Here all pools have just enough credit for some slow streams.
            plan = safe(plan, some_slow(pick, plan))
            name = pick.choice(plan.shared())
            other = plan.with_pool(name, credit=max(1, plan[name][0] + pick.randint(-3, 3)))
            due = [(slow, stream) for slow in slow_sets_of(plan) for stream in plan.streams() if stream not in slow
                   and can_stop(plan, stream, slow) != can_stop(other, stream, slow)]
            found.append(min(due, default=None))
            self.assertEqual(parted(plan, other), found[-1])
            self.assertEqual(parted(other, plan), found[-1])
        self.assertGreater(len([row for row in found if row is not None]), 20)
        self.assertGreater(len([row for row in found if row is not None and len(row[0]) > 1]), 2)


class Laws(unittest.TestCase):
    def test_great_numbers_at_once(self):
        start = time.monotonic()
        plan = great()
        self.assertEqual([slow_sets(plan, stream) for stream in plan.streams()], [[()], [("e",)], [()], [()], [], []])
        self.assertEqual([borne(plan), parted(plan, plan), parted(plan, plan.with_pool("pipe", credit=9))],
                         [-1, None, ((), "b")])
        self.assertLess(time.monotonic() - start, 5)

    def test_other_rules_and_other_names(self):
        pick = random.Random(83)
        for _ in range(40):
            plan = some_plan(pick)
            other = with_rules(pick, plan)
            names = other_names(pick, plan)
            like = renamed(plan, names)
            self.assertEqual([borne(other), borne(like)], [borne(plan)] * 2)
            self.assertIsNone(parted(plan, other))
            for stream in plan.streams():
                found = slow_sets(plan, stream)
                self.assertEqual(slow_sets(other, stream), found)
                self.assertEqual(slow_sets(like, names[stream]),
                                 [tuple([names[one] for one in slow]) for slow in found])
            shared = plan.with_pool("pipe", credit=plan["pipe"][0] + 2)
            row = parted(plan, shared)
            row = row and (tuple([names[one] for one in row[0]]), names[row[1]])
            self.assertEqual(parted(like, renamed(shared, names)), row)

    def test_nothing_is_changed_or_shared(self):
        plan = four(6)
        slow_sets(plan, "d").clear()
        self.assertEqual(slow_sets(plan, "d"), [("a", "b"), ("a", "c")])
        self.assertEqual([[borne(plan), parted(plan, four(5))] for _ in range(2)], [[0, (("a",), "b")]] * 2)
        self.assertEqual(plan, four(6))
