"""The examples of the document, one session, as far as the program goes."""

import unittest

from sharedpipe.accounts import Account
from sharedpipe.comparing import above, apart
from sharedpipe.plans import Plan
from sharedpipe.repeating import repeated
from sharedpipe.rules import at_least


class Examples(unittest.TestCase):
    def test_the_session(self):
        late = at_least(5, 2) & at_least(3)
        self.assertEqual([late(4), late(5), late(8), late.rest(7), late.threshold], [0, 4, 8, 1, 5])
        self.assertEqual([late == at_least(5, 2), apart(late | at_least(9), late), above(late, at_least(3))],
                         [True, 9, None])
        self.assertEqual([repeated(late, 0, 2, 3), repeated(late, 1, 1, 10), repeated(at_least(1), 0, 7, 10 ** 30)],
                         [(0, 6, 4), (3, 8, 4), (0, 7000000000000000000000000000000, 0)])
        account = Account(9, late)
        account -= 6
        account += 3
        self.assertEqual([account.left, account.unpassed, account.withheld], [3, 3, 3])
        account += 3
        self.assertEqual([account.left, account.withheld, account.flows(2, 3), account.withheld], [9, 0, 6, 0])
        soon = at_least(1)
        one = {"a": (4, soon, None, "home", None, None), "b": (3, soon, 3, None, None, None)}
        plan = Plan((6, at_least(2), "read"), {"home": (5, soon, "read", None)}, {}, one)
        self.assertEqual([plan.over("a"), plan.under("pipe"), plan["home"][0], "b" in plan, "c" in plan],
                         [["a", "home", "pipe"], ["a", "b"], 5, True, False])
