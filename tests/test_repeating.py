"""[23]: many amounts, one after another."""

import random
import unittest

from sharedpipe.repeating import repeated
from sharedpipe.rules import at_least
from values import LONG, late, rule_of


def step_by_step(rule, withheld, size, many):
    given, peak = 0, withheld
    for _ in range(many):
        peak = max(peak, withheld)
        amount = withheld + size
        given += rule(amount)
        withheld = rule.rest(amount)
    return (withheld, given, peak)


class Repeating(unittest.TestCase):
    def test_the_example(self):
        told = [repeated(late(), 0, 2, 3), repeated(late(), 1, 1, 10), repeated(at_least(1), 0, 7, 10 ** 30)]
        self.assertEqual(told, [(0, 6, 4), (3, 8, 4), (0, 7 * 10 ** 30, 0)])

    def test_none(self):
        self.assertEqual(repeated(late(), 3, 2, 0), (3, 0, 3))
        self.assertEqual(repeated(at_least(LONG), LONG - 1, LONG, 0), (LONG - 1, 0, LONG - 1))
        self.assertIsInstance(repeated(late(), 0, 1, 0), tuple)

    def test_one(self):
        self.assertEqual(repeated(late(), 3, 1, 1), (4, 0, 3))
        self.assertEqual(repeated(late(), 3, 2, 1), (1, 4, 3))
        self.assertEqual(repeated(late(), 4, 1, 1), (1, 4, 4))
        self.assertEqual(repeated(late(), 0, 5, 1), (1, 4, 0))

    def test_the_peak_is_ahead_of_an_amount(self):
        self.assertEqual(repeated(at_least(10), 0, 3, 3), (9, 0, 6))
        self.assertEqual(repeated(at_least(10), 0, 3, 4), (0, 12, 9))

    def test_step_by_step(self):
        pick = random.Random(6)
        for _ in range(3000):
            rule = rule_of(pick, pick.randint(1, 6), 15)
            withheld, size, many = pick.randrange(rule.threshold), pick.randint(1, 20), pick.randint(0, 70)
            self.assertEqual(repeated(rule, withheld, size, many), step_by_step(rule, withheld, size, many))

    def test_all_small_ones(self):
        for by in range(1, 7):
            for least in (1, 4, 9):
                rule = at_least(least, by)
                for withheld in range(rule.threshold):
                    for size in range(1, 9):
                        for many in range(20):
                            self.assertEqual(repeated(rule, withheld, size, many),
                                             step_by_step(rule, withheld, size, many))

    def test_long_numbers(self):
        rule = at_least(LONG, 6) & at_least(5, 4)
        size, many = 7, 10 ** 39 - 1
        withheld, given, peak = repeated(rule, 3, size, many)
        self.assertEqual(withheld + given, 3 + size * many)
        self.assertLess(withheld, rule.threshold)
        self.assertLess(peak, rule.threshold)
        self.assertGreaterEqual(peak, rule.threshold - size)
        self.assertEqual(repeated(at_least(LONG), 0, 1, LONG), (0, LONG, LONG - 1))
        self.assertEqual(repeated(at_least(LONG), 0, 1, LONG - 1), (LONG - 1, 0, LONG - 2))
        rest = (5 + LONG * LONG) % 6
        self.assertEqual(repeated(at_least(1, 6), 5, LONG, LONG), (rest, 5 + LONG * LONG - rest, 5))

    def test_many_turns_go_on_where_few_end(self):
        pick = random.Random(7)
        for _ in range(300):
            rule = rule_of(pick, pick.randint(1, 6), 15)
            withheld, size, many = pick.randrange(rule.threshold), pick.randint(1, 20), 10 ** 30 + pick.randint(0, 99)
            one = repeated(rule, withheld, size, many)
            other = repeated(rule, one[0], size, 17)
            both = repeated(rule, withheld, size, many + 17)
            self.assertEqual(both, (other[0], one[1] + other[1], max(one[2], other[2])))
