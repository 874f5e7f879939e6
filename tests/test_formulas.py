"""The least credit of the pipe, and the formula of it."""

import random
import time
import unittest

from given import SOON, example, great, mixed, other_names, renamed, with_rules
from plain import some_plan, some_slow
from search import slow_sets_of, small_searches
from sharedpipe.errors import BadSlow, Unknown
from sharedpipe.fills import filled
from sharedpipe.formulas import bend, least_credit, raised, terms
from sharedpipe.plans import Plan
from sharedpipe.rules import at_least
from sharedpipe.stops import can_fill, stopping
from test_fills import all_covers
from values import raised as error_of, things

GREAT = 10 ** 30


def floors(plan):
    """Return the dict from all pools but the pipe to the least credits that they may have."""
    least = {name: 1 for name in plan.shared() if name != "pipe"}
    for stream in plan.streams():
        least[stream] = plan[stream][1].threshold + (plan.most(stream) or 1) - 1
    return least


def floor_in(plan, name):
    """Return the least credit that a pool may have in a Plan with its moment."""
    return max(floors(plan)[name], plan[name][1].threshold if plan[name][2] == "come" else 1)


def with_credits(plan, credits):
    """Return the Plan with these credits."""
    for name, credit in credits.items():
        plan = plan.with_pool(name, credit=credit)
    return plan


def sums(plan, rows):
    """Return the list of the sums of terms."""
    return [constant + sum([plan[name][0] for name in names]) for constant, names in rows]


def terms_of_covers(plan, slow):
    """Return the list of the terms of all covers of the pipe, each once."""
    rows = set()
    for pools, streams in all_covers(plan, "pipe", slow):
        own = [stream for stream in streams if stream in slow or plan.guide(stream)]
        others = [(plan.most(stream) or 1) - 1 for stream in streams if stream not in own]
        rows.add((plan["pipe"][1].threshold + sum(others), tuple(sorted(list(pools) + own))))
    return sorted(rows)


def naively_raised(plan, slow):
    """Return what raised has to return, credit by credit."""
    grown = True
    while grown:
        grown = False
        for name in plan.shared():
            while can_fill(plan, name, slow):
                plan, grown = plan.with_pool(name, credit=plan[name][0] + 1), True
    return plan


class LeastCredit(unittest.TestCase):
    def test_the_example(self):
        plan = example()
        self.assertEqual([least_credit(plan, ["a"]), least_credit(plan, []), least_credit(plan, ["b"])], [8, 4, 5])
        self.assertEqual(least_credit(plan.with_pool("home", credit=3), ["a"]), 7)

    def test_the_pipe_with_it_and_with_one_less(self):
        pick = random.Random(84)
        for _ in range(120):
            plan = some_plan(pick)
            slow = some_slow(pick, plan)
            least = least_credit(plan, slow)
            self.assertEqual(least_credit(plan.with_pool("pipe", credit=least + 7), slow), least)
            enough = plan.with_pool("pipe", credit=least)
            self.assertIs(can_fill(enough, "pipe", slow), False)
            if plan["pipe"][2] == "come":
                self.assertEqual(least, plan["pipe"][1].threshold)
            elif least > 1:
                small = plan.with_pool("pipe", credit=least - 1)
                self.assertEqual(stopping(small, slow), [s for s in plan.streams() if s not in slow])

    def test_against_all_runs(self):
        pick = random.Random(85)
        tried = 0
        for search in small_searches(pick, 40):
            for slow in slow_sets_of(search.plan):
                full = any([search.is_full(moment, "pipe", slow) for moment in search.letters])
                self.assertEqual(full, search.plan["pipe"][0] < least_credit(search.plan, slow))
                tried += full
        self.assertGreater(tried, 20)

    def test_it_does_not_ask_for_streams_that_are_not_slow_elsewhere(self):
        self.assertEqual(least_credit(mixed(), []), 5 + 3 + 5 + 2)
        self.assertEqual(least_credit(mixed(), ["b"]), 5 + 3 + 5 + 2 + 6)
        self.assertEqual(least_credit(mixed(home=4), ["b"]), 5 + 4 + 6)
        self.assertEqual(least_credit(mixed(home=4, moment="come").with_pool("pipe", moment="come"), ["b"]), 5)


class Terms(unittest.TestCase):
    def check(self, pick, plan, slow):
        """Check the formula: it holds, and none of it can be left out."""
        rows = terms(plan, slow)
        self.assertEqual(rows, sorted(set(rows)))
        self.assertEqual(min(sums(plan, rows)), least_credit(plan, slow))
        for constant, names in rows:
            self.assertEqual(list(names), sorted(set(names)))
            # With the least credits of what is named and great ones of all else it is the one.
            credits = {name: floor_in(plan, name) if name in names else GREAT for name in floors(plan)}
            where = with_credits(plan, credits)
            found = sums(where, rows)
            due = found[rows.index((constant, names))]
            self.assertEqual(least_credit(where, slow), due)
            self.assertEqual([total for total in found if total <= due], [due])
        for _ in range(6):
            credits = {name: floor_in(plan, name) + pick.choice([0, 0, 1, 2, 5, 20]) for name in floors(plan)}
            where = with_credits(plan, credits)
            self.assertEqual(terms(where, slow), rows)
            self.assertEqual(min(sums(where, rows)), least_credit(where, slow))
        return rows

    def test_the_example(self):
        self.assertEqual(terms(example(), ["a"]), [(4, ("a",)), (4, ("home",))])
        self.assertEqual(terms(example(), []), [(4, ())])
        self.assertEqual(terms(example(), ["b"]), [(2, ("b",))])

    def test_what_a_house_can_never_bound(self):
        # The house may have no less than 1: what a whole stream holds is bounded by it from most 3 on.
        for most, due in ((1, [(1, ())]), (2, [(2, ())]), (3, [(1, ("home",)), (3, ())]),
                          (4, [(1, ("home",)), (4, ())])):
            streams = {"a": (9, SOON, most, "home", None, None)}
            plan = Plan((6, SOON, "read"), {"home": (5, SOON, "read", None)}, {}, streams)
            self.assertEqual(terms(plan, []), due)

    def test_what_own_credits_can_never_be(self):
        # A slow stream has no less than its threshold and most - 1 together.
        for rule, most, due in ((SOON, None, [(1, ("a",)), (1, ("home",))]),
                                (at_least(7), 3, [(1, ("a",)), (1, ("home",))])):
            streams = {"a": (9, rule, most, "home", None, None), "b": (9, SOON, 4, "home", None, None)}
            plan = Plan((6, SOON, "read"), {"home": (5, SOON, "read", None)}, {}, streams)
            self.assertEqual(terms(plan, ["a"]), [(1, ("home",)), (4, ("a",))])
            streams = {"a": (9, rule, most, "home", None, None), "b": (9, SOON, None, None, None, None)}
            plan = Plan((6, SOON, "read"), {"home": (5, SOON, "read", None)}, {}, streams)
            self.assertEqual(terms(plan, ["a"]), due)
        # Whole streams in hand 3 and 4: the kind is never worth leaving out one with 1 and more.
        streams = {"a": (9, SOON, 2, "home", "sort", None), "b": (9, SOON, 3, None, "sort", None)}
        plan = Plan((6, SOON, "read"), {"home": (5, SOON, "read", None)}, {"sort": (5, SOON, "read", None)}, streams)
        self.assertEqual(terms(plan, []), [(1, ("sort",)), (4, ())])

    def test_houses_in_houses_and_kinds(self):
        # In the room are c and d, in the kind these and a; d holds 3, f 2.
        self.assertEqual(self.check(random.Random(1), mixed(), ["a", "c"]),
                         [(5, ("a", "home")), (5, ("home", "sort")), (7, ("a", "e", "room")), (7, ("e", "sort")),
                          (10, ("a", "c", "e"))])
        self.assertEqual(terms(mixed(), []), [(5, ("home",)), (7, ("e", "room")), (7, ("e", "sort")), (10, ("e",))])
        self.assertEqual(terms(mixed(moment="come"), []), [(7, ("e", "room")), (7, ("e", "sort")), (10, ("e",))])

    def test_the_moment_come(self):
        plan = mixed().with_pool("pipe", moment="come")
        self.assertEqual([terms(plan, slow) for slow in ([], ["a", "c"])], [[(5, ())]] * 2)

    def test_against_all_covers(self):
        pick = random.Random(86)
        many = set()
        for _ in range(60):
            plan = some_plan(pick, streams=pick.randint(1, 4)).with_pool("pipe", moment="read")
            slow = some_slow(pick, plan)
            rows = self.check(pick, plan, slow)
            least = floors(plan)
            candidates = terms_of_covers(plan, slow)
            self.assertEqual([row for row in rows if row not in candidates], [])
            for constant, names in candidates:
                # One that is left out is nowhere less than all that stand there.
                credits = {name: least[name] if name in names else GREAT for name in least}
                found = [more + sum([credits[name] for name in others]) for more, others in rows]
                self.assertLessEqual(min(found), constant + sum([credits[name] for name in names]))
            many.add(len(rows))
        self.assertGreater(max(many), 4)

    def test_plans_chosen_by_chance(self):
        pick = random.Random(87)
        for _ in range(60):
            plan = some_plan(pick)
            self.check(pick, plan, some_slow(pick, plan))

    def test_great_numbers(self):
        for slow in ([], ["a", "b", "e"], ["a", "b", "c", "e", "f"]):
            plan = great()
            rows = terms(plan, slow)
            self.assertEqual(min(sums(plan, rows)), least_credit(plan, slow))
            self.assertEqual(least_credit(plan, slow), 10 ** 38 + filled(plan, "pipe", slow))


class Bend(unittest.TestCase):
    def test_the_example(self):
        self.assertEqual([bend(example(), ["a"], "a"), bend(example(), ["a"], "b"), bend(example(), [], "a")],
                         [5, 3, 1])
        self.assertEqual([bend(example(), ["b"], "a"), bend(example(), ["b"], "b")], [1, None])

    def test_where_it_lies(self):
        streams = {"a": (4, at_least(3), 2, "home", None, None), "b": (9, SOON, 3, "home", None, None),
                   "c": (9, SOON, None, None, None, None)}
        for house, due in ((1, 4), (6, 4), (7, 5), (10 ** 38, 10 ** 38 - 2)):
            plan = Plan((6, SOON, "read"), {"home": (house, SOON, "read", None)}, {}, streams)
            self.assertEqual(bend(plan, ["a"], "a"), due)
            self.assertEqual(bend(plan, ["a", "b"], "a"), max(4, house - 9))
            self.assertEqual([bend(plan, ["c"], "c"), bend(plan, [], "c"), bend(plan, ["a"], "b")], [None, 1, 3])
            self.assertIsNone(bend(plan.with_pool("home", moment="come"), ["a"], "a"))
            self.assertEqual(bend(plan.with_pool("pipe", moment="come"), ["a", "c"], "c"), 1)

    def test_a_guide(self):
        self.assertEqual(bend(mixed(), [], "e"), 7)
        self.assertEqual([bend(mixed(home=credit), [], "e") for credit in (8, 9, 10)], [4, 4, 5])
        self.assertEqual(bend(mixed(), [], "f"), 6)

    def test_against_the_words(self):
        pick = random.Random(88)
        seen = set()
        for _ in range(120):
            plan = some_plan(pick)
            slow = some_slow(pick, plan)
            for stream in plan.streams():
                least = floor_in(plan, stream)
                past = sum([plan[name][0] for name in plan.shared() + plan.streams()]) + least
                found = [least_credit(plan.with_pool(stream, credit=credit), slow) for credit in (past, past + 1)]
                due = None
                if found[0] == found[1]:
                    due = past
                    while due > least and least_credit(plan.with_pool(stream, credit=due - 1), slow) == found[0]:
                        due -= 1
                self.assertEqual(bend(plan, slow, stream), due)
                seen.add("none" if due is None else "least" if due == least else "more")
        self.assertEqual(len(seen), 3)

    def test_it_is_the_same_whatever_the_own_credit_is(self):
        for credit in (1, 4, 5, 6, 10 ** 38):
            self.assertEqual(bend(example().with_pool("a", credit=credit), ["a"], "a"), 5)


class Raised(unittest.TestCase):
    def test_the_example(self):
        plan = raised(example(), ["a"])
        self.assertEqual([plan["pipe"][0], plan["home"][0]], [8, 5])
        self.assertEqual(plan, example().with_pool("pipe", credit=8))
        self.assertEqual(raised(example(), ["b"]), example())
        self.assertEqual(raised(plan, ["a"]), plan)

    def test_pools_that_raise_each_other(self):
        # What a holds is great: home and sort are raised until neither bounds the other any more.
        for holding in (4, 7, 40):
            streams = {"a": (holding, SOON, None, "home", "sort", None), "b": (4, SOON, None, "home", "sort", None)}
            plan = Plan((1, at_least(2), "read"), {"home": (2, SOON, "read", None)},
                        {"sort": (2, at_least(3), "read", None)}, streams)
            found = raised(plan, ["a"])
            self.assertEqual(found, naively_raised(plan, ["a"]))
            self.assertEqual(stopping(found, ["a"]), [])

    def test_pools_under_which_all_are_slow_stay(self):
        streams = {"a": (9, SOON, None, "home", None, None), "b": (4, SOON, None, None, None, None)}
        plan = Plan((1, SOON, "read"), {"home": (5, SOON, "read", None)}, {}, streams)
        self.assertEqual(raised(plan, ["a"]), plan.with_pool("pipe", credit=6))

    def test_against_one_credit_after_another(self):
        pick = random.Random(89)
        grown = 0
        for _ in range(100):
            plan = some_plan(pick)
            slow = some_slow(pick, plan)
            found = raised(plan, slow)
            self.assertEqual(found, naively_raised(plan, slow))
            self.assertEqual(stopping(found, slow), [])
            grown += found != plan
            for name in plan.shared():
                self.assertEqual(found[name][1:], plan[name][1:])
                if found[name][0] > plan[name][0]:
                    self.assertNotEqual(stopping(found.with_pool(name, credit=found[name][0] - 1), slow), [])
        self.assertGreater(grown, 50)

    def test_great_numbers_at_once(self):
        start = time.monotonic()
        third = 10 ** 38
        for slow in ([], ["a"], ["a", "b", "e"], ["c", "f"], ["a", "b", "c", "e", "f"]):
            found = raised(great(), slow)
            self.assertEqual(stopping(found, slow), [])
            for name in found.shared():
                if found[name][0] > great()[name][0]:
                    self.assertNotEqual(stopping(found.with_pool(name, credit=found[name][0] - 1), slow), [])
        streams = {"a": (third, SOON, None, "home", "sort", None), "b": (4, SOON, None, "home", "sort", None)}
        plan = Plan((1, SOON, "read"), {"home": (1, SOON, "read", None)}, {"sort": (1, SOON, "read", None)}, streams)
        found = raised(plan, ["a"])
        # Each needs one more than the least of the others, or than what a can hold.
        self.assertEqual([found[name][0] for name in found.shared()], [third + 1] * 3)
        self.assertLess(time.monotonic() - start, 5)


class Errors(unittest.TestCase):
    def test_names(self):
        for name in ["home", "pipe", "z", 0] + things():
            for slow in ([], ["a"], ["z"], None):
                self.assertIs(error_of(self, Unknown, bend, mixed(), slow, name).name, name)

    def test_slow_sets_that_are_none(self):
        bad = [["f"], ["a", "a"], ["z"], list("abcdef"), "a", {"a": 1}, ["a", "f"]]
        for slow in bad + [thing for thing in things() if thing not in ([], ())]:
            for call in (least_credit, terms, raised):
                error_of(self, BadSlow, call, mixed(), slow)
            error_of(self, BadSlow, bend, mixed(), slow, "a")

    def test_a_slow_stream_may_be_asked_for(self):
        self.assertEqual(bend(example(), ("a",), "a"), 5)


class Laws(unittest.TestCase):
    def answers(self, plan, slow):
        """Return what all functions say."""
        return (least_credit(plan, slow), terms(plan, slow), [bend(plan, slow, stream) for stream in plan.streams()],
                [raised(plan, slow)[name][0] for name in plan.shared()])

    def test_other_rules_with_the_same_thresholds(self):
        pick = random.Random(90)
        for _ in range(50):
            plan = some_plan(pick)
            slow = some_slow(pick, plan)
            self.assertEqual(self.answers(with_rules(pick, plan), slow), self.answers(plan, slow))

    def test_other_names(self):
        pick = random.Random(91)
        for _ in range(50):
            plan = some_plan(pick)
            slow, names = some_slow(pick, plan), other_names(pick, plan)
            least, rows, bends, credits = self.answers(plan, slow)
            rows = [(constant, tuple([names[name] for name in row])) for constant, row in rows]
            like = renamed(plan, names), [names[name] for name in slow]
            self.assertEqual(self.answers(*like), (least, rows, bends, credits))
            self.assertEqual(raised(*like), renamed(raised(plan, slow), names))

    def test_nothing_is_changed_or_shared(self):
        plan, slow = mixed(), ["c", "a"]
        first = self.answers(plan, slow)
        terms(plan, slow).clear()
        self.assertEqual([self.answers(plan, slow), plan, slow], [first, mixed(), ["c", "a"]])
        for like in (("a", "c"), ["a", "c"], ("c", "a")):
            self.assertEqual(self.answers(mixed(), like), first)
        self.assertEqual(self.answers(mixed(9).with_pool("pipe", credit=30), slow), first)
