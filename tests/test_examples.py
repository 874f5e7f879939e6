"""The examples of the document, one session."""

import unittest

from sharedpipe.accounts import Account
from sharedpipe.book import Book
from sharedpipe.comparing import above, apart
from sharedpipe.covers import cover, cover_sum
from sharedpipe.desk import Desk
from sharedpipe.fills import fill, filled, holds
from sharedpipe.formulas import bend, least_credit, raised, terms
from sharedpipe.frames import read_frames
from sharedpipe.fullness import stands_full, stopped
from sharedpipe.machine import Machine
from sharedpipe.notation import show_plan, show_rule
from sharedpipe.papers import is_safe_paper, is_stop_run, safe_paper, stop_run
from sharedpipe.plans import Plan
from sharedpipe.reader import Reader
from sharedpipe.repeating import repeated
from sharedpipe.rules import at_least
from sharedpipe.sender import Sender
from sharedpipe.slowsets import borne, slow_sets
from sharedpipe.standings import Standings, is_closed
from sharedpipe.stops import can_fill, can_stop, fewest_letters, stopping


class Examples(unittest.TestCase):
    def test_the_session(self):
        late = at_least(5, 2) & at_least(3)
        self.assertEqual([late(4), late(5), late(8), late.rest(7), late.threshold], [0, 4, 8, 1, 5])
        self.assertEqual([late == at_least(5, 2), apart(late | at_least(9), late), above(late, at_least(3))],
                         [True, 9, None])
        self.assertEqual([repeated(late, 0, 2, 3), repeated(late, 1, 1, 10), repeated(at_least(1), 0, 7, 10 ** 30)],
                         [(0, 6, 4), (3, 8, 4), (0, 7000000000000000000000000000000, 0)])
        account = Account(9, late)
        account -= 6
        account += 3
        self.assertEqual([account.left, account.unpassed, account.withheld], [3, 3, 3])
        account += 3
        self.assertEqual([account.left, account.withheld, account.flows(2, 3), account.withheld], [9, 0, 6, 0])
        soon = at_least(1)
        one = {"a": (4, soon, None, "home", None, None), "b": (3, soon, 3, None, None, None)}
        plan = Plan((6, at_least(2), "read"), {"home": (5, soon, "read", None)}, {}, one)
        self.assertEqual([plan.over("a"), plan.under("pipe"), plan["home"][0], "b" in plan, "c" in plan],
                         [["a", "home", "pipe"], ["a", "b"], 5, True, False])
        machine = Machine(plan)
        machine.step(("pass", "b", 1, 1))
        machine.step(("put", "a", 4, 1, False))
        machine.step(("begin", "b", 3, False))
        machine.step(("send", "b", 1, 1))
        self.assertEqual([machine.left_of("pipe"), machine.withheld_of("pipe"), machine.lying("a"), machine.hand("b"),
                          machine.sent()], [0, 1, [(4, False)], (3, 1, False), 6])
        self.assertIs(stands_full(machine, "pipe", ["a"]), True)
        self.assertEqual([stopped(machine, ["a"]), stopped(machine, []), machine.readable("a"), machine.back()],
                         [["b"], [], 4, ("send", "b", 1, 1)])
        sender, reader = Sender(plan), Reader(plan)
        sender.write("a", "hello")
        text = sender.frame("a", 9)
        self.assertEqual([text, sender.frame("a", 9), read_frames(text + "b"), sender.unsent("a")],
                         ["da,4,:hell;", "", ([("data", "a", "hell", False, False)], "b"), 1])
        reader.take(text[:5])
        reader.take(text[5:])
        self.assertEqual([reader.read("a", 3), reader.backs(), reader.left_of("pipe"), reader.withheld_of("pipe")],
                         [["hel"], "ba,3;bhome,3;bpipe,3;", 5, 0])
        self.assertEqual([holds(plan, "pipe", ["a"]), filled(plan, "pipe", ["a"]), fill(plan, "pipe", ["a"])],
                         [{"a": 4, "b": 2}, 6, {"a": 4, "b": 2}])
        small = plan.with_pool("home", credit=3)
        self.assertEqual([fill(small, "pipe", ["a"]), cover(small, "pipe", ["a"]),
                          cover_sum(small, "pipe", ["a"], ((), ("a", "b")))],
                         [{"a": 3, "b": 2}, (("home",), ("b",)), 6])
        self.assertEqual([stopping(plan, ["a"]), stopping(plan, ["b"]), fewest_letters(plan, "b", ["a"])],
                         [["b"], [], 6])
        self.assertEqual([can_fill(plan, name, ["a"]) for name in plan.shared()], [False, True])
        self.assertTrue(is_stop_run(plan, "b", ["a"], stop_run(plan, "b", ["a"])))
        wide = plan.with_pool("pipe", credit=8)
        self.assertEqual([can_stop(wide, "b", ["a"]), safe_paper(wide, "b", ["a"]), stop_run(wide, "b", ["a"])],
                         [False, {"pipe": ((), ("a", "b"))}, None])
        self.assertTrue(is_safe_paper(wide, "b", ["a"], {"pipe": ((), ("a", "b"))}))
        self.assertEqual([slow_sets(plan, "b"), slow_sets(plan, "a"), borne(plan)], [[("a",)], [], 0])
        self.assertEqual([least_credit(plan, ["a"]), terms(plan, ["a"]), bend(plan, ["a"], "a"),
                          bend(plan, ["a"], "b")],
                         [8, [(4, ("a",)), (4, ("home",))], 5, 3])
        self.assertEqual([raised(plan, ["a"])["pipe"][0], raised(plan, ["a"])["home"][0]], [8, 5])
        two = Plan((2, at_least(2), "read"), {}, {},
                   {"a": (1, soon, None, None, None, None), "b": (1, soon, 1, None, None, None)})
        table = Standings(two)
        self.assertEqual([len(table), table.stopping([]), table.stopping(["a"]), is_closed(two, table.rows())],
                         [7, [], ["b"], True])
        self.assertEqual(table.full("pipe", ["a"]), [((0, 0, 1), (((1, False),), ((), ())))])
        self.assertEqual([show_rule(late), show_plan(two).split("\n")[0]], ["(5/2&3)", "pipe 2 2 read"])
        desk = Desk(plan)
        self.assertEqual([desk.execute("stopping a"), desk.execute("pool pipe 8 - -"), desk.execute("stopping a"),
                          desk.execute("least a")], ["b", "-", "-", "8"])
        self.assertEqual([desk.execute("terms a"), desk.execute("back"),
                          desk.execute("play a pass b 1 1, put a 1 4, begin b 3, send b 1 1")],
                         ["4+a 4+home", "pool pipe 8 - -", "b"])
        self.assertEqual(len(Book(plan)), 0)
