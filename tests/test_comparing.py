"""[22], [5]: Rules compared for all amounts."""

import random
import unittest

from sharedpipe.comparing import above, apart
from sharedpipe.rules import Rule, at_least
from values import LONG, by_hand, late, small_trees


class Comparing(unittest.TestCase):
    def test_the_example(self):
        rule = late()
        self.assertEqual([rule == at_least(5, 2), apart(rule | at_least(9), rule), above(rule, at_least(3))],
                         [True, 9, None])

    def test_equal_rules(self):
        for one, other in [(late(), at_least(5, 2)), (at_least(1, 6), at_least(6, 6)),
                           (at_least(LONG, 6), at_least(LONG, 6) & at_least(1))]:
            self.assertEqual([apart(one, other), above(one, other), above(other, one)], [None, None, None])

    def test_above_is_one_sided(self):
        two, three = at_least(1, 2), at_least(1, 3)
        self.assertEqual([apart(two, three), above(two, three), above(three, two)], [2, 2, 3])
        self.assertEqual([apart(three, two), above(at_least(1), two), above(two, at_least(1))], [2, 1, None])

    def test_zero_is_no_difference(self):
        self.assertEqual(apart(at_least(1), at_least(2)), 1)
        self.assertIsNone(above(at_least(2), at_least(1)))

    def test_by_hand(self):
        pick = random.Random(4)
        for _ in range(600):
            one, other = small_trees(pick, pick.randint(1, 4), 25), small_trees(pick, pick.randint(1, 4), 25)
            pairs = [(by_hand(one, amount), by_hand(other, amount)) for amount in range(150)]
            unlike = [at for at, (a, b) in enumerate(pairs) if a != b]
            more = [at for at, (a, b) in enumerate(pairs) if a > b]
            self.assertEqual(apart(Rule(one), Rule(other)), unlike[0] if unlike else None)
            self.assertEqual(above(Rule(one), Rule(other)), more[0] if more else None)

    def test_far_starts(self):
        pick = random.Random(5)
        for _ in range(150):
            starts = [pick.choice([1, 7, 61, 10 ** 6, LONG - 1, LONG, LONG + 30, LONG + 61]) for _ in range(4)]
            leaves = [at_least(start, pick.randint(1, 6)) for start in starts]
            one, other = leaves[0] | leaves[1] & leaves[2], (leaves[0] | leaves[1]) & (leaves[3] | leaves[2])
            amounts = [at for start in (0, 10 ** 6, LONG) for at in range(max(start - 5, 0), start + 200)]
            unlike = [at for at in amounts if one(at) != other(at)]
            more = [at for at in amounts if one(at) > other(at)]
            self.assertEqual(apart(one, other), unlike[0] if unlike else None)
            self.assertEqual(above(one, other), more[0] if more else None)

    def test_long_numbers_of_unlike_sizes(self):
        self.assertEqual(apart(at_least(3), at_least(LONG)), 3)
        self.assertEqual(above(at_least(3), at_least(LONG)), 3)
        self.assertIsNone(above(at_least(LONG), at_least(3)))
        one = at_least(2, 2) & (at_least(5) | at_least(LONG))
        other = at_least(2, 2) & at_least(5) & (at_least(7) | at_least(LONG, 3))
        self.assertEqual([apart(one, other), above(one, other), above(other, one)], [5, 5, None])
        self.assertEqual(apart(at_least(4) | at_least(LONG), at_least(4)), None)
        self.assertEqual(apart(at_least(4, 2) | at_least(LONG), at_least(4, 2)), LONG + 1 - LONG % 2)
        self.assertEqual(apart(at_least(10 ** 39 - 1), at_least(10 ** 39 - 2)), 10 ** 39 - 2)

    def test_the_rules_stay_as_they_are(self):
        one, other = late(), at_least(9, 4)
        trees = (one.tree(), other.tree())
        self.assertEqual(apart(one, other), apart(one, other))
        self.assertEqual(above(one, other), above(one, other))
        self.assertEqual((one.tree(), other.tree()), trees)
