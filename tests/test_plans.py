"""[31], [2], [3], [4]: Plans."""

import unittest
from itertools import permutations

from sharedpipe.accounts import Account
from sharedpipe.errors import BadGuide, Narrow, Ring, Twice, Unknown, Wrong
from sharedpipe.plans import Plan
from sharedpipe.rules import Rule, at_least
from values import LONG, late, raised, things

SOON = at_least(1)
PIPE = (6, at_least(2), "read")


def group(around=None, credit=5, rule=SOON, moment="read"):
    return (credit, rule, moment, around)


def stream(house=None, kind=None, guide=None, most=None, credit=4, rule=SOON):
    return (credit, rule, most, house, kind, guide)


def example():
    one = {"a": (4, SOON, None, "home", None, None), "b": (3, SOON, 3, None, None, None)}
    return Plan(PIPE, {"home": (5, SOON, "read", None)}, {}, one)


def great():
    """Return a Plan with six groups and six streams, keys in no order."""
    houses = {"out": group("far"), "in": group("out", 7, late(), "come"), "far": group(None, 8)}
    kinds = {"y": group("x"), "x": group("w", 2, at_least(2), "come"), "w": group()}
    streams = {
        "f": stream("in", "y", "d"), "e": stream("in", "y", "d", 2), "d": stream("in", "y", None, 3),
        "c": stream("out", None, None, 4), "b": stream(None, "w", None, None, LONG, at_least(LONG, 6)), "a": stream(),
    }
    return Plan((9, late(), "come"), houses, kinds, streams)


def turned(table):
    """Return the dict with its keys the other way round."""
    return dict(reversed(list(table.items())))


class Kinds(unittest.TestCase):
    def wrong(self, place, *parts):
        self.assertEqual(raised(self, Wrong, Plan, *parts).place, place)

    def test_wrong_pipes(self):
        rule = SOON
        pipes = [*things(), 5, "pipe", (), (6, rule), (6, rule, "read", None), [6, rule, "read"], (0, rule, "read"),
                 (-1, rule, "read"), (True, rule, "read"), ("6", rule, "read"), (None, rule, "read"),
                 (6, None, "read"), (6, ("at", 1, 1), "read"), (6, Rule, "read"), (6, rule, "reads"),
                 (6, rule, None), (6, rule, ["read"]), (6, rule, b"read"), (rule, 6, "read"), example()]
        for pipe in pipes:
            self.wrong(0, pipe, {}, {}, {"a": stream()})
            self.wrong(0, pipe, None, None, None)

    def test_wrong_groups(self):
        rule = SOON
        rows = [*things(), 5, "home", (), (5, rule, "read"), (5, rule, "read", None, None), [5, rule, "read", None],
                (0, rule, "read", None), (True, rule, "read", None), (5, 1, "read", None), (5, rule, "", None),
                (5, rule, None, None), (5, rule, "read", 1), (5, rule, "read", ""), (5, rule, "read", "Home"),
                (5, rule, "read", "ninesigns"), (5, rule, "read", ["home"]), (5, rule, "read", False)]
        names = [None, True, 1, "", "A", "a1", "ninesigns", b"a", ("a",), frozenset()]
        tables = [*[thing for thing in things() if thing != {}], [("h", group())], ["h"], "h", example()]
        tables += [{"h": row} for row in rows] + [{"g": group(), "h": row} for row in rows]
        tables += [{name: group()} for name in names] + [{"g": group(), name: group()} for name in names]
        for table in tables:
            self.wrong(1, PIPE, table, {}, {"a": stream()})
            self.wrong(1, PIPE, table, table, None)
            self.wrong(2, PIPE, {}, table, {"a": stream()})
            self.wrong(2, PIPE, {}, table, None)

    def test_wrong_streams(self):
        rule = SOON
        rows = [*things(), 5, "a", (), (4, rule, None, None, None), (4, rule, None, None, None, None, None),
                [4, rule, None, None, None, None], (0, rule, None, None, None, None),
                (True, rule, None, None, None, None), (4, None, None, None, None, None),
                (4, rule, 0, None, None, None), (4, rule, True, None, None, None), (4, rule, "1", None, None, None),
                (4, rule, -1, None, None, None), (4, rule, None, 1, None, None), (4, rule, None, "A", None, None),
                (4, rule, None, None, "", None), (4, rule, None, None, ["a"], None),
                (4, rule, None, None, None, "ninesigns"), (4, rule, None, None, None, {}),
                (4, rule, None, None, None, False), (4, rule, None, "h" * 9, None, None)]
        tables = [*things(), 5, [("a", stream())], ["a"], example()]
        tables += [{"a": row} for row in rows] + [{"a": stream(), "b": row} for row in rows]
        tables += [{name: stream()} for name in [None, True, 1, "", "A", "a1", "ninesigns", b"a", ("a",)]]
        for table in tables:
            self.wrong(3, PIPE, {}, {}, table)

    def test_numbers_of_streams(self):
        self.wrong(3, PIPE, {}, {}, {})
        for many in range(1, 7):
            self.assertEqual(len(Plan(PIPE, {}, {}, {name: stream() for name in "abcdef"[:many]}).streams()), many)
        self.wrong(3, PIPE, {}, {}, {name: stream() for name in "abcdefg"})

    def test_numbers_of_groups(self):
        one = {"a": stream()}
        for many in range(7):
            groups = [{name: group() for name in names} for names in ("uvwxyz"[:many], "uvwxyz"[many:])]
            self.assertEqual(len(Plan(PIPE, *groups, one).shared()), 7)
            more = dict(groups[many % 2], more=group())
            self.wrong(2, PIPE, *([groups[0], more] if many % 2 else [more, groups[1]]), one)
            self.wrong(2, PIPE, *([groups[0], more] if many % 2 else [more, groups[1]]), {})
        seven = {name: group() for name in "tuvwxyz"}
        self.wrong(2, PIPE, seven, {}, one)
        self.wrong(2, PIPE, seven, None, None)
        self.wrong(2, PIPE, {}, seven, {})
        self.wrong(1, PIPE, dict(seven, h=None), {}, one)

    def test_wrong_is_ahead_of_all_others(self):
        bad = {"pipe": group("z", 1, at_least(9), "come"), "r": group("r")}
        self.wrong(0, None, bad, bad, {"pipe": stream("q")})
        self.wrong(3, PIPE, bad, bad, {"pipe": stream("q"), "x": stream(most=0)})
        self.wrong(2, PIPE, bad, dict(bad, x=group("X")), {"pipe": stream("q")})

    def test_rules_are_rules(self):
        for thing in [SOON.tree(), None, 1, "1", Account(1, SOON)]:
            self.wrong(0, (6, thing, "read"), {}, {}, {"a": stream()})
            self.wrong(1, PIPE, {"h": group(rule=thing)}, {}, {"a": stream()})
            self.wrong(3, PIPE, {}, {}, {"a": stream(rule=thing)})


class Names(unittest.TestCase):
    def name(self, error, *parts):
        """Return the name in the error, which is the same for all orders of the keys."""
        told = raised(self, error, Plan, *parts).name
        again = [turned(part) if isinstance(part, dict) else part for part in parts]
        self.assertEqual(raised(self, error, Plan, *again).name, told)
        return told

    def test_twice(self):
        one, h, ab = {"a": stream()}, {"h": group()}, {"b": group(), "a": group()}
        self.assertEqual(self.name(Twice, PIPE, h, h, one), "h")
        self.assertEqual(self.name(Twice, PIPE, ab, {}, one), "a")
        self.assertEqual(self.name(Twice, PIPE, {}, ab, one), "a")
        self.assertEqual(self.name(Twice, PIPE, ab, ab, {"b": stream(), "c": stream()}), "a")
        self.assertEqual(self.name(Twice, PIPE, {"z": group()}, {"z": group(), "q": group()}, {"q": stream()}), "q")

    def test_twice_for_pipe(self):
        one, pipe = {"a": stream()}, {"pipe": group()}
        self.assertEqual(self.name(Twice, PIPE, pipe, {}, one), "pipe")
        self.assertEqual(self.name(Twice, PIPE, {}, pipe, one), "pipe")
        self.assertEqual(self.name(Twice, PIPE, {}, {}, {"pipe": stream()}), "pipe")
        self.assertEqual(self.name(Twice, PIPE, dict(pipe, a=group()), {}, one), "a")
        self.assertEqual(self.name(Twice, PIPE, dict(pipe, z=group()), {"z": group()}, one), "pipe")

    def test_unknown(self):
        one = {"a": stream()}
        self.assertEqual(self.name(Unknown, PIPE, {"h": group("g")}, {}, one), "g")
        self.assertEqual(self.name(Unknown, PIPE, {}, {"k": group("g")}, one), "g")
        self.assertEqual(self.name(Unknown, PIPE, {}, {}, {"a": stream("g")}), "g")
        self.assertEqual(self.name(Unknown, PIPE, {}, {}, {"a": stream(None, "g")}), "g")
        self.assertEqual(self.name(Unknown, PIPE, {}, {}, {"a": stream(guide="g")}), "g")

    def test_unknown_in_the_dict_that_is_meant(self):
        h, k = {"h": group()}, {"k": group()}
        self.assertEqual(self.name(Unknown, PIPE, dict(h, g=group("k")), k, {"a": stream()}), "k")
        self.assertEqual(self.name(Unknown, PIPE, h, dict(k, g=group("h")), {"a": stream()}), "h")
        self.assertEqual(self.name(Unknown, PIPE, h, k, {"a": stream("k")}), "k")
        self.assertEqual(self.name(Unknown, PIPE, h, k, {"a": stream("h", "h")}), "h")
        self.assertEqual(self.name(Unknown, PIPE, h, k, {"a": stream("h", "k", "h")}), "h")
        self.assertEqual(self.name(Unknown, PIPE, h, k, {"a": stream("a")}), "a")
        self.assertEqual(self.name(Unknown, PIPE, {"h": group("pipe")}, k, {"a": stream()}), "pipe")
        self.assertEqual(self.name(Unknown, PIPE, h, k, {"a": stream("pipe")}), "pipe")

    def test_the_least_unknown(self):
        names = "pqrst"
        for order in permutations(names):
            around, outer, house, kind, guide = order
            self.assertEqual(self.name(Unknown, PIPE, {"h": group(around)}, {"k": group(outer)},
                                       {"a": stream(house), "b": stream(None, kind), "c": stream(guide=guide)}), "p")

    def test_ring(self):
        one = {"a": stream()}
        self.assertEqual(self.name(Ring, PIPE, {"h": group("h")}, {}, one), "h")
        self.assertEqual(self.name(Ring, PIPE, {}, {"k": group("k")}, one), "k")
        self.assertEqual(self.name(Ring, PIPE, {"i": group("h"), "h": group("i")}, {}, one), "h")
        six = {"u": group("v"), "v": group("w"), "w": group("x"), "x": group("y"), "y": group("z"), "z": group("u")}
        self.assertEqual(self.name(Ring, PIPE, six, {}, one), "u")
        self.assertEqual(self.name(Ring, PIPE, {}, six, one), "u")
        self.assertEqual(self.name(Ring, PIPE, {"z": group("z")}, {"k": group("l"), "l": group("k")}, one), "k")
        self.assertEqual(self.name(Ring, PIPE, {"b": group("b")}, {"k": group("l"), "l": group("k")}, one), "b")

    def test_what_leads_to_a_ring_is_not_in_it(self):
        groups = {"b": group("c"), "c": group("e"), "d": group("e"), "e": group("d"), "f": group()}
        self.assertEqual(self.name(Ring, PIPE, groups, {}, {"a": stream()}), "d")
        self.assertEqual(self.name(Ring, PIPE, {}, groups, {"a": stream()}), "d")
        six = {"u": group("v"), "v": group("w"), "w": group("x"), "x": group("y"), "y": group("z"), "z": group()}
        self.assertEqual(len(Plan(PIPE, six, {}, {"a": stream("u")}).over("a")), 8)

    def test_bad_guides(self):
        self.assertEqual(self.name(BadGuide, PIPE, {}, {}, {"a": stream(guide="a")}), "a")
        two = {"a": stream(guide="b"), "b": stream(guide="a")}
        self.assertEqual(self.name(BadGuide, PIPE, {}, {}, two), "a")
        chain = {"c": stream(guide="a"), "b": stream(guide="c"), "a": stream()}
        self.assertEqual(self.name(BadGuide, PIPE, {}, {}, chain), "b")
        chain = {"a": stream(guide="b"), "b": stream(guide="c"), "c": stream()}
        self.assertEqual(self.name(BadGuide, PIPE, {}, {}, chain), "a")
        self.assertEqual(self.name(BadGuide, PIPE, {}, {}, {"a": stream(), "b": stream(guide="b"),
                                                            "c": stream(guide="c")}), "b")

    def test_a_guide_lies_in_the_same_house_and_kind(self):
        h, k = {"h": group(), "i": group("h")}, {"k": group(), "l": group("k")}
        places = [(house, kind) for house in (None, "h", "i") for kind in (None, "k", "l")]
        for one in places:
            for other in places:
                streams = {"a": stream(*one, "b"), "b": stream(*other)}
                if one == other:
                    self.assertEqual(Plan(PIPE, h, k, streams).guide("a"), "b")
                else:
                    self.assertEqual(self.name(BadGuide, PIPE, h, k, streams), "a")

    def test_several_streams_may_have_one_guide(self):
        plan = Plan(PIPE, {}, {}, {"a": stream(guide="c"), "b": stream(guide="c"), "c": stream(), "d": stream()})
        self.assertEqual(plan.guides(), ["c"])

    def test_narrow_streams_without_a_most(self):
        for rule in (at_least(5), at_least(5, 2), at_least(2, 5), late(), at_least(9) | at_least(5)):
            Plan(PIPE, {}, {}, {"a": stream(credit=5, rule=rule)})
            self.assertEqual(self.name(Narrow, PIPE, {}, {}, {"a": stream(credit=4, rule=rule)}), "a")

    def test_narrow_streams_with_a_most(self):
        for most in (1, 2, 7, LONG):
            credit = 5 + most - 1
            Plan(PIPE, {}, {}, {"a": stream(most=most, credit=credit, rule=late())})
            self.assertEqual(self.name(Narrow, PIPE, {}, {}, {"a": stream(most=most, credit=credit - 1, rule=late())}),
                             "a")

    def test_narrow_shared_pools(self):
        one = {"a": stream()}
        Plan((5, late(), "come"), {"h": group(None, 5, late(), "come")}, {"k": group(None, 5, late(), "come")}, one)
        Plan((4, late(), "read"), {"h": group(None, 1, late(), "read")}, {"k": group(None, 1, late(), "read")}, one)
        narrow = group(None, 4, late(), "come")
        self.assertEqual(self.name(Narrow, (4, late(), "come"), {}, {}, one), "pipe")
        self.assertEqual(self.name(Narrow, PIPE, {"h": narrow}, {}, one), "h")
        self.assertEqual(self.name(Narrow, PIPE, {}, {"k": narrow}, one), "k")

    def test_the_least_narrow(self):
        narrow, thin = group(None, 4, late(), "come"), stream(credit=4, rule=late())
        for names in permutations("abq"):
            house, kind, one = names
            self.assertEqual(self.name(Narrow, (4, late(), "come"), {house: narrow}, {kind: narrow}, {one: thin}), "a")
        self.assertEqual(self.name(Narrow, (4, late(), "come"), {"q": narrow}, {"r": narrow}, {"s": thin}), "pipe")

    def test_the_first_error_in_the_order_of_the_document(self):
        pipe = (1, late(), "come")
        twice, unknown, ring = {"z": group()}, {"y": group("nope")}, {"x": group("x")}
        loose = {"c": stream(guide="c"), "b": stream(credit=1, rule=late())}
        houses = {**twice, **unknown, **ring}
        self.assertEqual(self.name(Twice, pipe, houses, twice, loose), "z")
        self.assertEqual(self.name(Unknown, pipe, {**unknown, **ring}, twice, loose), "nope")
        self.assertEqual(self.name(Ring, pipe, ring, twice, loose), "x")
        self.assertEqual(self.name(BadGuide, pipe, {}, twice, loose), "c")
        self.assertEqual(self.name(Narrow, pipe, {}, twice, {"b": loose["b"]}), "b")


class Queries(unittest.TestCase):
    def test_the_example(self):
        plan = example()
        self.assertEqual([plan.over("a"), plan.under("pipe"), plan["home"][0], "b" in plan, "c" in plan],
                         [["a", "home", "pipe"], ["a", "b"], 5, True, False])

    def test_names_ascend(self):
        plan = great()
        self.assertEqual(plan.streams(), ["a", "b", "c", "d", "e", "f"])
        self.assertEqual(plan.houses(), ["far", "in", "out"])
        self.assertEqual(plan.kinds(), ["w", "x", "y"])
        self.assertEqual(plan.shared(), ["far", "in", "out", "pipe", "w", "x", "y"])
        self.assertEqual(plan.guides(), ["d"])
        self.assertEqual([example().kinds(), example().guides(), example().shared()], [[], [], ["home", "pipe"]])

    def test_over(self):
        plan = great()
        self.assertEqual(plan.over("a"), ["a", "pipe"])
        self.assertEqual(plan.over("b"), ["b", "w", "pipe"])
        self.assertEqual(plan.over("c"), ["c", "out", "far", "pipe"])
        for name in "def":
            self.assertEqual(plan.over(name), [name, "in", "out", "far", "y", "x", "w", "pipe"])

    def test_under(self):
        plan = great()
        wanted = {"a": "a", "b": "b", "c": "c", "d": "d", "e": "e", "f": "f", "far": "cdef", "out": "cdef",
                  "in": "def", "w": "bdef", "x": "def", "y": "def", "pipe": "abcdef"}
        for name, streams in wanted.items():
            self.assertEqual(plan.under(name), list(streams))
        self.assertEqual(Plan(PIPE, {"h": group()}, {}, {"a": stream()}).under("h"), [])

    def test_most_and_guide(self):
        plan = great()
        self.assertEqual([plan.most(name) for name in "abcdef"], [None, None, 4, 3, 2, None])
        self.assertEqual([plan.guide(name) for name in "abcdef"], [None, None, None, None, "d", "d"])

    def test_unknown(self):
        plan = great()
        for name in ["g", "pip", "pipes", "", "A"]:
            for ask in (plan.over, plan.under, plan.most, plan.guide):
                self.assertEqual(raised(self, Unknown, ask, name).name, name)
        for name in ["far", "in", "w", "pipe"]:
            for ask in (plan.over, plan.most, plan.guide):
                self.assertEqual(raised(self, Unknown, ask, name).name, name)

    def test_items(self):
        plan = great()
        self.assertEqual(plan["pipe"], (9, late(), "come"))
        self.assertEqual(plan["in"], (7, late(), "come"))
        self.assertEqual(plan["x"], (2, at_least(2), "come"))
        self.assertEqual(plan["e"], (4, SOON, "read"))
        self.assertEqual(plan["b"], (LONG, at_least(LONG, 6), "read"))
        self.assertIs(plan["a"].__class__, tuple)

    def test_items_of_any_value(self):
        plan = great()
        for name in [*things(), 0, "g", "A", ["a"], ("a",), b"a", {"a": 1}, SOON, plan]:
            self.assertIs(name in plan, False)
            self.assertIs(raised(self, Unknown, lambda: plan[name]).name, name)
        for name in [*plan.streams(), *plan.shared()]:
            self.assertIs(name in plan, True)
        self.assertEqual(raised(self, Unknown, lambda: plan["a", "b"]).name, ("a", "b"))
        self.assertEqual(raised(self, Unknown, lambda: plan[0:1]).name, slice(0, 1))

    def test_parts(self):
        pipe, houses, kinds, streams = great().parts()
        self.assertEqual(pipe, (9, late(), "come"))
        self.assertEqual(houses, {"far": group(None, 8), "in": group("out", 7, late(), "come"), "out": group("far")})
        self.assertEqual(kinds, {"w": group(), "x": group("w", 2, at_least(2), "come"), "y": group("x")})
        self.assertEqual(streams["e"], (4, SOON, 2, "in", "y", "d"))
        self.assertEqual([list(houses), list(kinds), list(streams)],
                         [["far", "in", "out"], ["w", "x", "y"], list("abcdef")])
        self.assertIs(great().parts().__class__, tuple)
        self.assertEqual(Plan(*great().parts()), great())

    def test_the_order_of_keys_means_nothing(self):
        pipe, *tables = great().parts()
        plan = Plan(pipe, *[turned(table) for table in tables])
        self.assertEqual(plan, great())
        self.assertEqual([list(table) for table in plan.parts()[1:]], [list(table) for table in tables])
        self.assertEqual([plan.streams(), plan.shared(), plan.under("pipe"), plan.over("f")],
                         [great().streams(), great().shared(), great().under("pipe"), great().over("f")])

    def test_a_plan_is_not_iterated_over(self):
        with self.assertRaises(TypeError):
            list(example())


class Copies(unittest.TestCase):
    def test_what_is_handed_in_is_copied(self):
        houses, kinds, streams = {"h": group()}, {"k": group()}, {"a": stream("h", "k"), "b": stream()}
        plan = Plan(PIPE, houses, kinds, streams)
        self.assertEqual([houses, kinds, streams],
                         [{"h": group()}, {"k": group()}, {"a": stream("h", "k"), "b": stream()}])
        ahead = plan.parts()
        houses["i"], kinds["k"], streams["a"] = group(), group(credit=99), stream()
        del streams["b"]
        self.assertEqual(plan.parts(), ahead)
        self.assertEqual([plan.over("a"), plan.streams(), plan.houses(), plan["k"][0]],
                         [["a", "h", "k", "pipe"], ["a", "b"], ["h"], 5])

    def test_the_order_of_what_is_handed_in_stays(self):
        streams = {"b": stream(), "a": stream()}
        Plan(PIPE, {}, {}, streams)
        self.assertEqual(list(streams), ["b", "a"])

    def test_what_is_returned_is_new(self):
        plan = great()
        lists = [plan.streams, plan.houses, plan.kinds, plan.shared, plan.guides,
                 lambda: plan.over("f"), lambda: plan.under("far")]
        for ask in lists:
            ahead = ask()
            told = ask()
            told.append("new")
            told[0] = "old"
            self.assertEqual(ask(), ahead)
            self.assertIs(ask().__class__, list)
        for at in (1, 2, 3):
            told = plan.parts()[at]
            told["new"] = told.pop(sorted(told)[0])
            self.assertEqual(plan.parts()[at], great().parts()[at])
        self.assertEqual(plan, great())

    def test_plans_that_come_of_plans_are_on_their_own(self):
        plan = example()
        plan.with_pool("a", credit=9).parts()[3].clear()
        plan.renamed({"a": "x", "b": "y", "home": "z"}).parts()[3].clear()
        self.assertEqual(plan, example())


class Changed(unittest.TestCase):
    def test_with_pool(self):
        plan = great()
        for name in [*plan.streams(), *plan.shared()]:
            credit, rule, moment = plan[name]
            self.assertEqual(plan.with_pool(name), plan)
            wide = plan.with_pool(name, credit=credit + 1)
            self.assertEqual(wide[name], (credit + 1, rule, moment))
            self.assertEqual(plan.with_pool(name, rule=SOON)[name], (credit, SOON, moment))
            self.assertNotEqual(wide, plan)
            self.assertEqual(wide.with_pool(name, credit=credit), plan)
            self.assertEqual([wide[other] for other in plan.streams() + plan.shared() if other != name],
                             [plan[other] for other in plan.streams() + plan.shared() if other != name])
            self.assertEqual([wide.over("f"), wide.guides(), wide.most("e")], [plan.over("f"), ["d"], 2])
        for name in plan.shared():
            for moment in ("come", "read"):
                told = plan.with_pool(name, moment=moment)
                self.assertEqual(told[name], (*plan[name][:2], moment))
        self.assertEqual(plan.with_pool("pipe", credit=7, rule=SOON, moment="read")["pipe"], (7, SOON, "read"))
        self.assertEqual(plan, great())

    def test_with_pool_raises_unknown_first(self):
        plan = great()
        for name in ["g", "A", ""]:
            self.assertEqual(raised(self, Unknown, plan.with_pool, name, credit=0).name, name)

    def test_with_pool_raises_what_plan_raises(self):
        plan = great()
        for name, place in [("pipe", 0), ("in", 1), ("y", 2), ("a", 3)]:
            self.assertEqual(raised(self, Wrong, plan.with_pool, name, credit=0).place, place)
            self.assertEqual(raised(self, Wrong, plan.with_pool, name, rule=5).place, place)
        for name in ("pipe", "in", "out", "a", "c"):
            self.assertEqual(raised(self, Narrow, plan.with_pool, name, rule=at_least(10), moment=None if name in "ac"
                                    else "come").name, name)
        self.assertEqual(raised(self, Narrow, plan.with_pool, "pipe", credit=4).name, "pipe")
        self.assertEqual(raised(self, Narrow, plan.with_pool, "c", credit=3).name, "c")
        self.assertEqual(plan, great())

    def test_with_pool_takes_keywords_alone(self):
        with self.assertRaises(TypeError):
            example().with_pool("a", 5)

    def test_renamed(self):
        plan = great()
        old = [*plan.streams(), *plan.houses(), *plan.kinds()]
        names = dict(zip(old, ["far", "e", "in", "q", "a", "b", "w", "z", "c", "x", "d", "abcdefgh"]))
        told = plan.renamed(names)
        self.assertEqual(told.streams(), sorted(names[name] for name in plan.streams()))
        self.assertEqual(told.houses(), sorted(names[name] for name in plan.houses()))
        self.assertEqual(told.kinds(), sorted(names[name] for name in plan.kinds()))
        names["pipe"] = "pipe"
        for name in [*plan.streams(), *plan.shared()]:
            self.assertEqual(told[names[name]], plan[name])
            self.assertEqual(told.under(names[name]), sorted(names[other] for other in plan.under(name)))
        for name in plan.streams():
            self.assertEqual(told.over(names[name]), [names[other] for other in plan.over(name)])
            self.assertEqual(told.most(names[name]), plan.most(name))
        self.assertEqual(told.guides(), ["q"])
        self.assertEqual(told.guide("a"), "q")
        self.assertEqual(told.renamed({new: name for name, new in names.items() if name != "pipe"}), plan)
        self.assertEqual(plan, great())

    def test_renamed_may_swap(self):
        told = example().renamed({"a": "b", "b": "a", "home": "home"})
        self.assertEqual(told.parts()[3], {"a": (3, SOON, 3, None, None, None),
                                           "b": (4, SOON, None, "home", None, None)})

    def test_renamed_changes_no_argument(self):
        names = {"home": "z", "b": "x", "a": "y"}
        example().renamed(names)
        self.assertEqual(list(names.items()), [("home", "z"), ("b", "x"), ("a", "y")])


class Equal(unittest.TestCase):
    def test_equal(self):
        self.assertIs(example() == example(), True)
        self.assertIs(example() != example(), False)
        self.assertIs(great() == example(), False)
        self.assertIs(great() != example(), True)

    def test_rules_are_compared_for_all_amounts(self):
        plan = example()
        same = plan.with_pool("pipe", rule=at_least(2) | at_least(9))
        self.assertIs(plan == same, True)
        self.assertIs(plan == plan.with_pool("pipe", rule=at_least(2, 2)), False)

    def test_each_part_counts(self):
        base = ({"h": group(), "i": group()}, {"k": group()}, {"a": stream(), "b": stream()})
        plan = Plan(PIPE, *base)
        others = [
            ((7, at_least(2), "read"), *base), ((6, at_least(3), "read"), *base), ((6, at_least(2), "come"), *base),
            (PIPE, {"h": group("i"), "i": group()}, *base[1:]), (PIPE, {"h": group()}, *base[1:]),
            (PIPE, base[0], {"k": group(moment="come")}, base[2]), (PIPE, base[0], {}, base[2]),
            (PIPE, {"h": group()}, {"i": group(), "k": group()}, base[2]),
            (PIPE, *base[:2], {"a": stream(), "b": stream(guide="a")}), (PIPE, *base[:2], {"a": stream()}),
            (PIPE, *base[:2], {"a": stream("h"), "b": stream()}),
            (PIPE, *base[:2], {"a": stream(None, "k"), "b": stream()}),
            (PIPE, *base[:2], {"a": stream(most=2), "b": stream()}),
        ]
        for parts in others:
            self.assertIs(plan == Plan(*parts), False)

    def test_equal_to_nothing_else(self):
        plan = example()
        for thing in [*things(), plan.parts(), "pipe", SOON, Account(1, SOON)]:
            self.assertIs(plan == thing, False)
            self.assertIs(thing == plan, False)
