"""Standings: of given plans, and of small ones against a plain search."""

import itertools
import random
import time
import unittest

from given import SOON, example, great, mixed, other_names, renamed
from plain import does, some_plan, some_slow, some_step
from search import Search, TooLarge, slow_sets_of, small_searches
from sharedpipe.errors import BadSlow, TooMany, Unknown
from sharedpipe.fullness import stands_full, stopped
from sharedpipe.machine import Machine
from sharedpipe.papers import stop_run
from sharedpipe.plans import Plan
from sharedpipe.rules import at_least
from sharedpipe.runs import played
from sharedpipe.standings import Standings, is_closed, standing_of
from sharedpipe.stops import stopping
from values import raised, things


def two():
    """Return the second Plan of the document's examples."""
    streams = {"a": (1, SOON, None, None, None, None), "b": (1, SOON, 1, None, None, None)}
    return Plan((2, at_least(2), "read"), {}, {}, streams)


def alone(credit, rule=SOON, most=None, pipe=None, moment="read"):
    """Return a Plan with one stream."""
    return Plan((pipe or credit, SOON, moment), {}, {}, {"a": (credit, rule, most, None, None, None)})


def guiding(whole=None):
    """Return a Plan in which g is the guide of a; with a most, both are read whole."""
    streams = {"a": (whole or 2, SOON, whole, None, None, "g"), "g": (whole or 1, SOON, whole, None, None, None)}
    return Plan((3, SOON, "read"), {}, {}, streams)


def other_things(row):
    """Return values that are like a standing but for one thing."""
    if isinstance(row, bool):
        return [int(row), None, not row]
    if isinstance(row, int):
        return [row + 1, row - 1, bool(row), None, str(row), (row,), -row or 7]
    found = [list(row), row + ((),), row + (0,), None, {}]
    for at, part in enumerate(row):
        found += [row[:at] + (other,) + row[at + 1:] for other in other_things(part)]
        found += [row[:at] + row[at + 1:], row[:at] + (part,) + row[at:]]
    return found


class Tables(unittest.TestCase):
    def test_the_example(self):
        table = Standings(two())
        self.assertEqual([len(table), table.stopping([]), table.stopping(["a"]), is_closed(two(), table.rows())],
                         [7, [], ["b"], True])
        self.assertEqual(table.full("pipe", ["a"]), [((0, 0, 1), (((1, False),), ((), ())))])
        self.assertEqual(table.full("pipe", []), [])

    def test_all_that_there_are(self):
        self.assertEqual(Standings(alone(1)).rows(), [((0, 0), ((),)), ((0, 0), (((1, False),),))])
        self.assertEqual(Standings(alone(2, most=2)).rows(), [
            ((0, 0), (((), ()),)), ((0, 0), (((), (1, False)),)), ((0, 0), ((((1, False),), ()),)),
            ((0, 0), ((((1, False),), (1, False)),)), ((0, 0), ((((1, False), (1, False)), ()),)),
            ((0, 0), ((((2, False),), ()),))])
        self.assertEqual(Standings(two()).rows(), [
            ((0, 0, 0), ((), ((), ()))), ((0, 0, 0), ((), (((1, False),), ()))),
            ((0, 0, 0), (((1, False),), ((), ()))), ((0, 0, 0), (((1, False),), (((1, False),), ()))),
            ((0, 0, 1), ((), ((), ()))), ((0, 0, 1), ((), (((1, False),), ()))),
            ((0, 0, 1), (((1, False),), ((), ())))])

    def test_what_waits_and_what_is_released(self):
        table = Standings(guiding())
        for lines, due in (((((1, False), (1, True)), ()), True), ((((1, True), (1, False)), ()), True),
                           ((((2, True),), ((1, False),)), True), ((((2, False),), ((1, False),)), True),
                           ((((2, True),), ((1, True),)), False), ((((1, True),), ((2, False),)), False),
                           ((((1, False), (1, False)), ()), False), ((((3, True),), ()), False)):
            self.assertIs(((0, 0, 0), lines) in table, due, lines)
        table = Standings(guiding(2))
        for lines, due in (((((), (1, True)), ((), ())), True), ((((), (1, True)), ((), (1, False))), True),
                           ((((), (1, False)), (((1, False),), ())), True),
                           ((((), (1, True)), (((1, False),), ())), True),
                           (((((1, True),), (1, False)), ((), ())), True),
                           (((((1, False),), (1, True)), ((), ())), True),
                           ((((), (2, True)), ((), ())), False), (((((2, True),), ()), ((), ())), True),
                           (((((3, True),), ()), ((), ())), False), ((((), ()), ((), (1, True))), False)):
            self.assertIs(((0, 0, 0), lines) in table, due, lines)

    def test_how_many_there_may_be(self):
        for plan, many in ((alone(1), 2), (two(), 7), (alone(999), 1000), (alone(1000), 1001),
                           (alone(3999), 4000), (alone(1000, moment="come"), 1001),
                           (alone(3999, rule=at_least(1, 1)), 4000)):
            self.assertEqual(len(Standings(plan, most=many)), many)
            self.assertEqual(len(Standings(plan, most=min(many + 1, 4000))), many)
            self.assertEqual(raised(self, TooMany, Standings, plan, most=many - 1).limit, many - 1)
            self.assertEqual(raised(self, TooMany, Standings, plan, most=1).limit, 1)
        self.assertEqual(len(Standings(alone(999))), 1000)
        self.assertEqual(raised(self, TooMany, Standings, alone(1000)).limit, 1000)
        self.assertEqual(raised(self, TooMany, Standings, alone(4000), most=4000).limit, 4000)

    def test_great_numbers_at_once(self):
        start = time.monotonic()
        whole = alone(2 * 10 ** 38, most=10 ** 38, moment="come")
        for plan in (great(), alone(10 ** 38), whole, alone(10 ** 38, rule=at_least(10 ** 38)), mixed(400, 400, 400)):
            self.assertEqual(raised(self, TooMany, Standings, plan, most=4000).limit, 4000)
            self.assertIs(is_closed(plan, [standing_of(Machine(plan))]), False)
        self.assertLess(time.monotonic() - start, 20)

    def test_many_letters_together(self):
        # What 3 and what 4 letters leave that are read together no fewer ones leave.
        plan = Plan((9, at_least(3, 2) & at_least(4, 3), "read"), {}, {}, {"a": (9, SOON, None, None, None, None)})
        table = Standings(plan)
        self.assertEqual(table.rows(), sorted(set(self.every(plan))))
        plan = Plan((9, at_least(3, 2), "come"), {}, {}, {"a": (9, SOON, None, None, None, None)})
        self.assertEqual(Standings(plan).rows(), sorted(set(self.every(plan))))

    def test_many_letters_that_change_what_comes_of_fewer(self):
        # Fewer letters leave the same in both pools, more than eleven together need not.
        one, other = at_least(2, 2), at_least(2, 2) | at_least(12, 3)
        for moment in ("read", "come"):
            streams = {"a": (14, SOON, None, "home", None, None)}
            plan = Plan((16, other, moment), {"home": (16, one, moment, None)}, {}, streams)
            found = Standings(plan).rows()
            self.assertEqual(found, sorted(self.every(plan)))
            self.assertEqual(sorted({row[0][1:] for row in found}), [(0, 0), (0, 1), (1, 0), (1, 1)])

    def every(self, plan):
        """Return the standings of all moments of a plain search through a Machine's steps."""
        start = Machine(plan)
        found, waiting = {standing_of(start)}, [start]
        while waiting:
            machine = waiting.pop()
            steps = [("put", "a", size, 1, False) for size in range(1, 17)] + [("read", "a", size, 1)
                for size in range(1, 17)]
            for step in steps:
                other = machine.copied()
                if does(other, step) and standing_of(other) not in found:
                    found.add(standing_of(other))
                    waiting.append(other)
        return found

    def test_against_a_plain_search(self):
        pick = random.Random(92)
        for search in small_searches(pick, 100, 900, (1, 1, 2, 2, 3)):
            plan = search.plan
            rows = sorted(search.letters)
            table = Standings(plan, most=len(rows))
            self.assertEqual(table.rows(), rows)
            self.assertEqual(len(table), len(rows))
            self.assertIs(all([row in table for row in rows]), True)
            self.assertEqual(raised(self, TooMany, Standings, plan, most=len(rows) - 1).limit, len(rows) - 1)

    def test_rules_of_all_kinds_against_a_plain_search(self):
        pick = random.Random(93)
        seen = 0
        while seen < 25:
            plan = some_plan(pick, streams=1, small=True)
            for name in ["pipe", "a"]:
                one, other = at_least(pick.randint(1, 9), pick.randint(1, 4)), at_least(pick.randint(1, 9),
                    pick.randint(1, 4))
                rule = pick.choice([one, one | other, one & other, (one & other) | at_least(8, 3)])
                plan = plan.with_pool(name, credit=pick.randint(10, 14), rule=rule)
            try:
                search = Search(plan, 1500)
            except TooLarge:
                continue
            seen += 1
            self.assertEqual(Standings(plan, most=4000).rows(), sorted(search.letters))


class Membership(unittest.TestCase):
    def test_other_values(self):
        for plan in (two(), guiding(), guiding(2)):
            table = Standings(plan)
            for thing in things() + [table, table.rows(), "abc", ((0, 0, 0),), (0, 0)]:
                self.assertIs(thing in table, False)

    def test_one_thing_put_otherwise(self):
        for plan in (two(), guiding(), guiding(2), alone(2, most=2)):
            table = Standings(plan)
            rows = table.rows()
            for row in rows:
                self.assertIs(row in table, True)
                for other in other_things(row):
                    exact = [one for one in rows if one == other and repr(one) == repr(other)]
                    self.assertIs(other in table, exact != [], other)

    def test_truths_are_no_numbers(self):
        table = Standings(two())
        for row in (((0, 0, True), ((), ((), ()))), ((False, 0, 1), ((), ((), ()))), ((0, 0, 0), (((1, 0),), ((), ()))),
                    ((0, 0, 0), (((True, False),), ((), ())))):
            self.assertIn(row, table.rows())
            self.assertIs(row in table, False)


class Fullness(unittest.TestCase):
    def test_against_a_plain_search(self):
        pick = random.Random(94)
        full = 0
        for search in small_searches(pick, 40, 600):
            plan = search.plan
            table = Standings(plan, most=4000)
            for slow in slow_sets_of(plan):
                fewest = search.fewest(slow)
                for either in (slow, list(reversed(slow))):
                    self.assertEqual(table.stopping(either), sorted(fewest))
                    self.assertEqual(table.stopping(either), stopping(plan, slow))
                for name in plan.shared():
                    rows = sorted([row for row in search.letters if search.is_full(row, name, slow)])
                    self.assertEqual(table.full(name, slow), rows)
                    full += len(rows)
        self.assertGreater(full, 100)

    def test_errors(self):
        table = Standings(two())
        for name in ["a", "b", "z", 0] + things():
            for slow in (["a"], ["z"], None):
                self.assertIs(raised(self, Unknown, table.full, name, slow).name, name)
        for slow in [["z"], ["a", "a"], ["a", "b"], "a", {"a"}, ["pipe"]] + [t for t in things() if t not in ([], ())]:
            raised(self, BadSlow, table.full, "pipe", slow)
            raised(self, BadSlow, table.stopping, slow)
        table = Standings(guiding())
        raised(self, BadSlow, table.stopping, ["g"])
        self.assertEqual(table.stopping(("a",)), stopping(guiding(), ["a"]))


class Machines(unittest.TestCase):
    def test_runs(self):
        pick = random.Random(95)
        for search in small_searches(pick, 40, 600):
            plan = search.plan
            table = Standings(plan, most=4000)
            slow = some_slow(pick, plan)
            full = {name: table.full(name, slow) for name in plan.shared()}
            stopping_ones = table.stopping(slow)
            for _ in range(4):
                machine = Machine(plan)
                self.assertEqual(standing_of(machine), min(search.letters, key=lambda row: search.letters[row]))
                for _ in range(25):
                    does(machine, some_step(pick, plan, machine))
                    row = standing_of(machine)
                    self.assertIs(row in table, True)
                    for name in plan.shared():
                        self.assertIs(row in full[name], stands_full(machine, name, slow))
                    self.assertEqual([stream for stream in stopped(machine, slow) if stream not in stopping_ones], [])

    def test_what_stands_there(self):
        machine = played(example(), [("pass", "b", 1, 1), ("put", "a", 2, 1, False), ("begin", "b", 3, False)])
        self.assertEqual(standing_of(machine), ((0, 0, 0, 1), (((2, False),), ((), ()))))
        machine.step(("send", "b", 1, 2))
        self.assertEqual(standing_of(machine), ((0, 0, 0, 1), (((2, False),), ((), (2, False)))))
        machine.step(("send", "b", 1, 1))
        self.assertEqual(standing_of(machine), ((0, 0, 0, 1), (((2, False),), (((3, False),), ()))))
        machine.step(("begin", "a", 5, False))
        self.assertEqual(standing_of(machine), ((0, 0, 0, 1), (((2, False),), (((3, False),), ()))))
        plan = Plan((2000, SOON, "read"), {}, {}, {"a": (2000, SOON, 3, None, None, "g"),
                                                   "g": (1, SOON, None, None, None, None)})
        machine = played(plan, [("put", "a", 1, 2, False), ("put", "a", 1, 900, True), ("put", "a", 2, 98, True),
                                ("begin", "a", 3, True), ("send", "a", 2, 1)])
        row = ((1, False),) * 2 + ((1, True),) * 900 + ((2, True),) * 98
        self.assertEqual(standing_of(machine), ((0, 0, 0), ((row, (2, True)), ())))
        machine.step(("put", "g", 1, 1, False))
        row = ((1, False),) * 902 + ((2, False),) * 98
        self.assertEqual(standing_of(machine), ((0, 0, 0), ((row, (2, False)), ((1, False),))))
        self.assertEqual(len(machine), 6)

    def test_runs_that_stop_streams(self):
        pick = random.Random(96)
        stops = 0
        for search in small_searches(pick, 40, 600):
            table = Standings(search.plan, most=4000)
            for slow in slow_sets_of(search.plan):
                for stream in table.stopping(slow):
                    row = standing_of(played(search.plan, stop_run(search.plan, stream, slow)))
                    self.assertTrue(any([row in table.full(name, slow) for name in search.plan.over(stream)[1:]]))
                    stops += 1
        self.assertGreater(stops, 60)


class Closed(unittest.TestCase):
    def test_in_any_order_and_with_further_ones(self):
        rows = Standings(two()).rows()
        for order in itertools.islice(itertools.permutations(rows), 0, 5040, 97):
            self.assertIs(is_closed(two(), list(order)), True)
        plan = alone(2)
        rows = Standings(plan).rows()
        self.assertEqual(rows, [((0, 0), ((),)), ((0, 0), (((1, False),),)), ((0, 0), (((2, False),),))])
        # Two pools that the same letters pass withhold the same; in what is allowed they need not.
        plan = Plan((3, at_least(2), "read"), {}, {}, {"a": (3, at_least(2), None, None, None, None)})
        rows = Standings(plan).rows()
        other = ((1, 0), ((),))
        self.assertNotIn(other, rows)
        self.assertIs(is_closed(plan, rows), True)
        self.assertIs(is_closed(plan, rows + [other]), False)
        self.assertIs(is_closed(plan, self.closed(plan, rows + [other])), True)
        self.assertIs(is_closed(plan, self.closed(plan, rows + [other])[::-1]), True)

    def closed(self, plan, rows):
        """Return the list of these standings and all to which they lead."""
        return sorted(Search(plan).closure(rows))

    def test_one_out_one_twice_one_otherwise(self):
        for plan in (two(), guiding(), guiding(2), alone(3, at_least(2, 2)), alone(3, most=3), alone(2, moment="come")):
            rows = Standings(plan).rows()
            self.assertIs(is_closed(plan, rows), True)
            for at, row in enumerate(rows):
                self.assertIs(is_closed(plan, rows[:at] + rows[at + 1:]), False)
                self.assertIs(is_closed(plan, rows[:at] + [row] + rows[at:]), False)
                self.assertIs(is_closed(plan, rows + [row]), False)
                self.assertIs(is_closed(plan, rows[:at] + [list(row)] + rows[at + 1:]), False)
                for other in other_things(row):
                    self.assertIs(is_closed(plan, rows[:at] + [other] + rows[at + 1:]), False)
            self.assertIs(is_closed(plan, tuple(rows)), False)
            self.assertIs(is_closed(plan, []), False)
            self.assertIs(is_closed(plan, {row: True for row in rows}), False)

    def test_other_values(self):
        for thing in things() + [7, "a", [()], [None], [((0, 0, 0),)]]:
            self.assertIs(is_closed(two(), thing), False)
        rows = Standings(two()).rows()
        for thing in things():
            self.assertIs(is_closed(two(), rows + [thing]), False)

    def test_what_is_not_allowed(self):
        plan = guiding().with_pool("a", credit=5).with_pool("g", credit=5)
        strange = [((1, 0, 0), ((), ())), ((0, 0, 1), ((), ())), ((0, 0, 0), ((), ((1, True),))),
                   ((0, 0, 0), (((4, True),), ())), ((0, 0, 0), (((2, True),), ((2, False),))),
                   ((0, 0, 0), (((1, True), (1, True)), ())), ((0, 0, 0), ((), ((1, False), (1, False)))),
                   ((0, 0, 0), (((1, True),), ((1, True),)))]
        self.check_strange(plan, strange + [((0, 0, -1), ((), ()))])
        for row in (((0, 0, 0), (((0, True),), ())), ((0, 0, 0), (((-1, True),), ()))):
            self.assertIs(is_closed(plan, Standings(plan).rows() + [row]), False, row)
        # Here a has no credit for more.
        self.check_strange(guiding(), [((0, 0, 0), (((1, True), (1, True)), ()))])
        plan = guiding(2).with_pool("a", credit=5).with_pool("g", credit=5)
        strange = [((0, 0, 0), lines) for lines in (
            ((((3, False),), ()), ((), ())), ((((1, False), (3, False)), ()), ((), ())), (((), (2, False)), ((), ())),
            (((), (3, True)), ((), ())), (((), ()), ((), (1, True))), (((), ()), (((1, True),), ())),
            (((), (1, True)), (((1, False), (1, True)), ())), ((((2, True), (2, True)), ()), ((), ())),
            (((), (0, False)), ((), ())), ((((0, False),), ()), ((), ())))]
        self.check_strange(plan, strange)
        rows = Standings(plan).rows()
        for lines in ((((), (1,)), ((), ())), (((), None), ((), ())), (((), ()), ()),
                      (((), (), ()), ((), ())), (((), ((1, False),)), ((), ())), (((), []), ((), ())),
                      (([], ()), ((), ()))):
            self.assertIs(is_closed(plan, rows + [((0, 0, 0), lines)]), False, lines)
        # What a pool withholds: less than its threshold, and not more than its credit.
        plan = Plan((3, at_least(4), "read"), {}, {}, {"a": (9, at_least(3), None, None, None, None)})
        self.check_strange(plan, [((3, 0), ((),)), ((0, 4), ((),)), ((1, 2), (((2, False),),))])
        self.assertIs(is_closed(plan, self.closed(plan, Standings(plan).rows() + [((2, 3), ((),)),
            ((1, 2), (((1, False),),))])), True)

    def check_strange(self, plan, strange):
        """Check that no list with one of these is closed, though it has all to which they lead."""
        rows = Standings(plan).rows()
        for row in strange:
            self.assertNotIn(row, rows)
            self.assertIs(is_closed(plan, self.closed(plan, rows + [row])), False, row)

    def test_a_list_of_another_plan(self):
        rows = Standings(two()).rows()
        self.assertIs(is_closed(two().with_pool("pipe", credit=3), rows), False)
        self.assertIs(is_closed(two().with_pool("pipe", credit=1), rows), False)
        self.assertIs(is_closed(two().with_pool("a", credit=2), rows), False)
        self.assertIs(is_closed(two().with_pool("pipe", rule=SOON), rows), False)
        self.assertIs(is_closed(two().with_pool("pipe", rule=at_least(3), credit=3), rows), False)
        self.assertIs(is_closed(two().with_pool("pipe", rule=at_least(2, 2)), rows), True)

    def test_against_a_plain_search(self):
        pick = random.Random(97)
        closed = 0
        for search in small_searches(pick, 50, 200):
            plan = search.plan
            rows = list(search.letters)
            strange = [self.allowed(pick, plan, row) for row in pick.sample(rows, min(4, len(rows)))]
            strange = [row for row in strange if row is not None]
            try:
                grown = list(search.closure(rows + strange, 600))
            except TooLarge:
                continue
            pick.shuffle(grown)
            closed += len(grown) > len(rows)
            self.check_each(search, grown, 12)
        self.assertGreater(closed, 10)

    def check_each(self, search, rows, many=None):
        """Check that a list is closed, and is so without one of the first rows just if no other leads to it."""
        self.assertIs(is_closed(search.plan, rows), True)
        needed = {min(search.letters)}
        for row in rows:
            needed |= {behind for _, behind in search.moves(row) if behind != row}
        for row in rows[:many]:
            rest = [other for other in rows if other != row]
            self.assertIs(is_closed(search.plan, rest), row not in needed, row)

    def test_what_is_released(self):
        # Two pools over both withhold the same; where they do not, no run leads, but what is released does.
        for whole in (None, 2):
            streams = {"a": (3, SOON, whole, "home", "sort", "g"), "g": (2, SOON, whole, "home", "sort", None)}
            pool = (3, at_least(2), "read", None)
            plan = Plan((9, SOON, "read"), {"home": pool}, {"sort": pool}, streams)
            search = Search(plan)
            line = ((1, True),) if whole is None else (((1, True),), (1, True))
            other = () if whole is None else ((), ())
            rows = list(search.closure([min(search.letters), ((0, 0, 1, 0, 0), (line, other))]))
            self.assertGreater(len(rows), len(search.letters))
            self.check_each(search, rows)

    def test_a_message_in_hand_is_released(self):
        streams = {"a": (2, SOON, 2, "home", "sort", "g"), "g": (1, SOON, 1, "home", "sort", None)}
        pool = (5, at_least(3, 2), "read", None)
        plan = Plan((5, SOON, "read"), {"home": pool}, {"sort": pool}, streams)
        start = ((0, 0, 2, 0, 0), ((((1, True),), (1, True)), ((), ())))
        behind = ((0, 0, 2, 0, 0), ((((1, False),), (1, False)), (((1, False),), ())))
        rows = Standings(plan).rows()
        self.assertEqual([row in rows for row in (start, behind)], [False, False])
        # All that comes of these two else is as runs leave it.
        self.assertIs(is_closed(plan, rows + [start, behind]), True)
        self.assertIs(is_closed(plan, rows + [behind]), True)
        self.assertIs(is_closed(plan, rows + [start]), False)

    def test_each_kind_of_frame_and_reading(self):
        # The start is none to which a run leads, so that only what comes of it leads to much of the list.
        kinds = {"ended": lambda moment, word, waits, ends: word == "frame" and ends,
                 "not ended": lambda moment, word, waits, ends: word == "frame" and not ends,
                 "not ended where something waits":
                     lambda moment, word, waits, ends: word == "frame" and not ends and "True" in repr(moment),
                 "waiting": lambda moment, word, waits, ends: word == "frame" and waits,
                 "not waiting": lambda moment, word, waits, ends: word == "frame" and not waits,
                 "release": lambda moment, word, waits, ends: word == "release",
                 "reading": lambda moment, word, waits, ends: word == "reading"}
        seen = set()
        for whole, own, rule, withheld in ((None, 1, at_least(3, 2), 2), (None, 2, at_least(2), 1),
                                           (2, 2, at_least(2), 1), (2, 3, at_least(2), 1)):
            size = min(own, 2)
            streams = {"a": (own, SOON, whole, "home", "sort", "g"), "g": (size, SOON, whole, "home", "sort", None)}
            pool = (5, rule, "read", None)
            plan = Plan((5, SOON, "read"), {"home": pool}, {"sort": pool}, streams)
            search = Search(plan)
            lines = (((size, True),), ()) if whole is None else ((((size, True),), ()), ((), ()))
            start = ((0, 0, withheld, 0, 0), lines)
            full = list(set(search.letters) | search.closure([start]))
            self.assertIs(is_closed(plan, full), True)
            for kind, barred in kinds.items():
                less = list(set(search.letters) | Search(plan, barred=barred).closure([start]))
                if set(less) != set(full):
                    seen.add((kind, whole))
                    self.assertIs(is_closed(plan, less), False, kind)
        self.assertEqual([(kind, whole) for kind in kinds for whole in (None, 2) if (kind, whole) not in seen], [])

    def allowed(self, pick, plan, row):
        """Return a standing like another one in which pools withhold what may be, or None."""
        names = sorted(plan.shared() + plan.streams())
        withheld = list(row[0])
        for at, name in enumerate(names):
            room = plan[name][0] - row[0][at] - self.letters(plan, row, name)
            top = min(plan[name][1].threshold - 1, row[0][at] + room)
            if top < 0:
                return None
            withheld[at] = pick.randint(0, top)
        return (tuple(withheld), row[1])

    def letters(self, plan, row, name):
        """Return the letters that are unread under a pool that letters pass when they are read."""
        if plan[name][2] == "come":
            return 0
        total = 0
        for stream in plan.under(name):
            line = row[1][plan.streams().index(stream)]
            if plan.most(stream) is None:
                total += sum([many for many, _ in line])
            else:
                total += sum([size for size, _ in line[0]]) + (line[1][0] if line[1] else 0)
        return total


class Laws(unittest.TestCase):
    def test_other_names(self):
        pick = random.Random(98)
        for search in small_searches(pick, 25, 300):
            plan = search.plan
            names = other_names(pick, plan)
            one, other = Standings(plan), Standings(renamed(plan, names))
            self.assertEqual(one.rows(), other.rows())
            self.assertIs(is_closed(renamed(plan, names), one.rows()), True)
            slow = some_slow(pick, plan)
            like = [names[name] for name in slow]
            self.assertEqual(other.stopping(like), [names[name] for name in one.stopping(slow)])
            for name in plan.shared():
                self.assertEqual(other.full(names[name], like), one.full(name, slow))

    def test_nothing_is_changed_or_shared(self):
        table = Standings(two())
        first = (table.rows(), table.full("pipe", ["a"]), table.stopping(["a"]))
        rows = table.rows()
        kept = list(rows)
        is_closed(two(), rows)
        self.assertEqual(rows, kept)
        rows.clear()
        table.full("pipe", ["a"]).clear()
        table.stopping(["a"]).clear()
        slow = ["a"]
        self.assertEqual((table.rows(), table.full("pipe", slow), table.stopping(slow)), first)
        self.assertEqual([len(table), slow], [7, ["a"]])
        like = Standings(two().with_pool("pipe", credit=2), most=7)
        self.assertEqual((like.rows(), like.full("pipe", ["a"]), like.stopping(["a"])), first)
        machine = Machine(two())
        standing_of(machine)
        self.assertEqual(machine, Machine(two()))
