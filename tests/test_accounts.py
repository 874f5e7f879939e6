"""[30]: Accounts."""

import random
import unittest

from sharedpipe.accounts import Account
from sharedpipe.errors import NotPassed, Overdrawn, Wrong
from sharedpipe.rules import Rule, at_least
from values import LONG, late, raised, rule_of, things


def stand(account):
    return (account.credit, account.left, account.unpassed, account.withheld)


def send(account, many):
    account -= many


def come(account, many):
    account += many


class Accounts(unittest.TestCase):
    def test_at_first_all_is_left(self):
        account = Account(9, late())
        self.assertEqual(stand(account), (9, 9, 0, 0))
        self.assertEqual(account.rule, late())
        self.assertIs(bool(account), True)
        self.assertEqual(stand(Account(10 ** 39 - 1, late())), (10 ** 39 - 1, 10 ** 39 - 1, 0, 0))

    def test_wrong(self):
        for thing in [*things(), 0, -1, "9", late(), Account(1, late())]:
            self.assertEqual(raised(self, Wrong, Account, thing, late()).place, 0)
            self.assertEqual(raised(self, Wrong, Account, thing, None).place, 0)
        for thing in [*things(), 1, ("at", 1, 1), "rule", Rule, Account(1, late())]:
            self.assertEqual(raised(self, Wrong, Account, 1, thing).place, 1)

    def test_the_example(self):
        account = Account(9, late())
        account -= 6
        account += 3
        self.assertEqual([account.left, account.unpassed, account.withheld], [3, 3, 3])
        account += 3
        self.assertEqual([account.left, account.withheld, account.flows(2, 3), account.withheld], [9, 0, 6, 0])

    def test_both_signs_change_the_account_itself(self):
        account = same = Account(9, late())
        account -= 6
        self.assertIs(account, same)
        account += 5
        self.assertIs(account, same)
        self.assertEqual(stand(same), (9, 7, 1, 1))

    def test_overdrawn(self):
        account = Account(9, late())
        account -= 7
        for many in (3, 4, LONG):
            self.assertEqual(raised(self, Overdrawn, send, account, many).many, many)
            self.assertEqual(stand(account), (9, 2, 7, 0))
        account -= 2
        self.assertEqual(stand(account), (9, 0, 9, 0))
        self.assertEqual(raised(self, Overdrawn, send, account, 1).many, 1)

    def test_what_is_withheld_is_not_left(self):
        account = Account(5, at_least(4))
        account -= 5
        account += 3
        self.assertEqual(stand(account), (5, 0, 2, 3))
        self.assertEqual(raised(self, Overdrawn, send, account, 1).many, 1)
        account += 1
        self.assertEqual(stand(account), (5, 4, 1, 0))

    def test_not_passed(self):
        account = Account(9, late())
        self.assertEqual(raised(self, NotPassed, come, account, 1).many, 1)
        account -= 4
        for many in (5, 9, LONG):
            self.assertEqual(raised(self, NotPassed, come, account, many).many, many)
            self.assertEqual(stand(account), (9, 5, 4, 0))
        account += 4
        self.assertEqual(stand(account), (9, 5, 0, 4))
        self.assertEqual(raised(self, NotPassed, come, account, 1).many, 1)

    def test_passes(self):
        account = Account(20, late())
        account -= 15
        self.assertEqual(raised(self, NotPassed, account.passes, 4, 4).many, 16)
        self.assertEqual(raised(self, NotPassed, account.passes, LONG, LONG).many, LONG * LONG)
        self.assertEqual(stand(account), (20, 5, 15, 0))
        self.assertEqual(account.passes(3, 5), 12)
        self.assertEqual(stand(account), (20, 17, 0, 3))
        self.assertEqual(raised(self, NotPassed, account.passes, 1, 1).many, 1)

    def test_flows(self):
        account = Account(6, late())
        self.assertEqual(raised(self, Overdrawn, account.flows, 7, 1).many, 7)
        self.assertEqual(raised(self, Overdrawn, account.flows, 4, 2 * LONG).many, 4)
        self.assertEqual(stand(account), (6, 6, 0, 0))
        self.assertEqual(account.flows(6, LONG), 6 * LONG)
        self.assertEqual(account.flows(2, 4), 6)
        self.assertEqual(stand(account), (6, 4, 0, 2))
        self.assertEqual(raised(self, Overdrawn, account.flows, 5, 1).many, 5)
        self.assertEqual(account.flows(4, 1), 6)

    def test_flows_counts_what_is_unpassed(self):
        account = Account(6, late())
        account -= 2
        self.assertEqual(raised(self, Overdrawn, account.flows, 1, 5).many, 1)
        self.assertEqual(account.flows(1, 4), 0)
        self.assertEqual(stand(account), (6, 0, 2, 4))
        self.assertIs(bool(account), False)

    def test_bool(self):
        account = Account(2, at_least(2))
        account -= 1
        self.assertIs(bool(account), True)
        account += 1
        self.assertIs(bool(account), True)
        account -= 1
        self.assertIs(bool(account), False)

    def test_copied(self):
        account = Account(9, late())
        account -= 6
        account += 3
        other = account.copied()
        self.assertEqual(other, account)
        self.assertEqual((stand(other), other.rule), (stand(account), account.rule))
        other += 2
        self.assertEqual((stand(other), stand(account)), ((9, 7, 1, 1), (9, 3, 3, 3)))
        account -= 3
        self.assertEqual((stand(other), stand(account)), ((9, 7, 1, 1), (9, 0, 6, 3)))
        self.assertNotEqual(other, account)
        self.assertIs(other.copied().__class__, Account)

    def test_equal(self):
        self.assertIs(Account(9, late()) == Account(9, at_least(5, 2)), True)
        self.assertIs(Account(9, late()) != Account(9, at_least(5, 2)), False)
        self.assertIs(Account(9, late()) == Account(8, late()), False)
        self.assertIs(Account(9, late()) == Account(9, at_least(5)), False)
        one, other = Account(9, late()), Account(9, late())
        one -= 3
        self.assertIs(one == other, False)
        other -= 4
        self.assertIs(one == other, False)
        other += 1
        self.assertIs(one == other, False)
        one -= 1
        one += 1
        self.assertIs(one == other, True)
        for thing in [*things(), 9, late()]:
            self.assertIs(one == thing, False)
            self.assertIs(one != thing, True)

    def test_properties_are_not_assigned(self):
        account = Account(9, late())
        for name in ("credit", "rule", "left", "unpassed", "withheld"):
            with self.assertRaises(AttributeError):
                setattr(account, name, 1)
        self.assertEqual(stand(account), (9, 9, 0, 0))

    def test_long_numbers(self):
        rule = at_least(LONG, 6) | at_least(LONG + 3)
        account = Account(10 ** 39 - 1, rule)
        account -= 8 * LONG
        self.assertEqual(account.passes(8, LONG - 1) + account.withheld, 8 * (LONG - 1))
        self.assertLess(account.withheld, rule.threshold)
        self.assertEqual(account.unpassed, 8)
        given = account.flows(1, LONG - 1)
        self.assertEqual(account.left + account.unpassed + account.withheld, account.credit)
        self.assertGreaterEqual(given, LONG - 6)

    def test_many_are_like_one_after_another(self):
        pick = random.Random(8)
        failed = 0
        for _ in range(1500):
            account = Account(pick.randint(1, 40), rule_of(pick, pick.randint(1, 6), 12))
            for _ in range(6):
                slow, quick, error = pick.choice([(slow_passes, Account.passes, NotPassed),
                                                  (slow_flows, Account.flows, Overdrawn)])
                size, many = pick.randint(1, 9), pick.randint(1, 9)
                account -= min(size, account.left)
                other, ahead = account.copied(), stand(account)
                try:
                    given = slow(other, size, many)
                except error:
                    failed += 1
                    told = raised(self, error, quick, account, size, many).many
                    self.assertEqual(told, size if error is Overdrawn else size * many)
                    self.assertEqual(stand(account), ahead)
                else:
                    self.assertEqual(quick(account, size, many), given)
                    self.assertEqual(account, other)
        self.assertGreater(failed, 500)
        self.assertLess(failed, 8500)


def slow_passes(account, size, many):
    left = account.left
    for _ in range(many):
        account += size
    return account.left - left


def slow_flows(account, size, many):
    given = 0
    for _ in range(many):
        account -= size
        left = account.left
        account += size
        given += account.left - left
    return given
