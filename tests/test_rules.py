"""[21], [2], [4], [5]: rules."""

import random
import unittest

from sharedpipe.errors import TooMany, Wrong
from sharedpipe.rules import Rule, at_least
from values import LONG, by_hand, chained, late, nested, raised, rule_of, small_trees, things


class Trees(unittest.TestCase):
    def test_trees_that_are_taken(self):
        for tree in [("at", 1, 1), ("at", LONG, 6), ("or", ("at", 1, 1), ("at", 2, 2)), chained(6),
                     chained(6, "and"), ("and", chained(3), chained(3))]:
            self.assertEqual(Rule(tree).tree(), tree)

    def test_wrong_trees(self):
        leaf = ("at", 1, 1)
        wrong = [
            *things(), "at", 5, ("at",), ("at", 1), ("at", 1, 1, 1), ["at", 1, 1], ("at", 0, 1), ("at", -1, 1),
            ("at", 1, 0), ("at", 1, 7), ("at", 1, -1), ("at", True, 1), ("at", 1, True), ("at", "1", 1),
            ("at", 1, None), ("at", [1], 1), ("At", 1, 1), (b"at", 1, 1), ("or", leaf), ("or", leaf, leaf, leaf),
            ["or", leaf, leaf], ("or", leaf, list(leaf)), ("or", leaf, None), ("and", 1, leaf), ("xor", leaf, leaf),
            ("at", leaf, leaf), ("or", 1, 1), ([], 1, 1), (("at",), 1, 1), (1, 1, 1), chained(7), chained(7, "and"),
            ("or", chained(3), chained(4)), at_least(1), ("or", at_least(1), at_least(2)), (at_least(1), 1, 1),
            chained(21), nested(20, leaf, tuple), ("or", nested(17), leaf),
        ]
        for tree in wrong:
            self.assertEqual(raised(self, Wrong, Rule, tree).place, 0)

    def test_a_deep_tree_with_shared_parts_is_answered_at_once(self):
        tree = ("at", 1, 1)
        for _ in range(400):
            tree = ("or", tree, tree)
        self.assertEqual(raised(self, Wrong, Rule, tree).place, 0)

    def test_at_least(self):
        self.assertEqual(at_least(5).tree(), ("at", 5, 1))
        self.assertEqual(at_least(5, 6).tree(), ("at", 5, 6))
        self.assertEqual(at_least(LONG, by=2).tree(), ("at", LONG, 2))
        for thing in [*things(), 0, -1, "5", at_least(1)]:
            self.assertEqual(raised(self, Wrong, at_least, thing).place, 0)
            self.assertEqual(raised(self, Wrong, at_least, thing, 7).place, 0)
        for thing in [*things(), 0, 7, -1, "5", LONG, at_least(1)]:
            self.assertEqual(raised(self, Wrong, at_least, 1, thing).place, 1)

    def test_joined(self):
        one, other = at_least(5, 2), at_least(3)
        self.assertEqual((one | other).tree(), ("or", ("at", 5, 2), ("at", 3, 1)))
        self.assertEqual((other & one).tree(), ("and", ("at", 3, 1), ("at", 5, 2)))
        self.assertIsInstance(one | other, Rule)

    def test_too_many(self):
        three, four, six = Rule(chained(3)), Rule(chained(4)), Rule(chained(6))
        self.assertEqual((three | three).tree(), ("or", chained(3), chained(3)))
        self.assertEqual((three & three).tree(), ("and", chained(3), chained(3)))
        for one, other in [(three, four), (four, three), (six, at_least(1)), (at_least(1), six), (six, six)]:
            self.assertEqual(raised(self, TooMany, lambda: one | other).limit, 6)
            self.assertEqual(raised(self, TooMany, lambda: one & other).limit, 6)
        self.assertEqual((three.tree(), four.tree()), (chained(3), chained(4)))

    def test_a_rule_stays_as_it_is(self):
        rule = at_least(5, 2)
        first, told = rule, rule.tree()
        rule |= at_least(1)
        rule &= at_least(9)
        told += (1,)
        first | rule, first & rule, first == rule, first(7), first.rest(7)
        self.assertEqual(first.tree(), ("at", 5, 2))
        self.assertEqual(rule.tree(), ("and", ("or", ("at", 5, 2), ("at", 1, 1)), ("at", 9, 1)))
        with self.assertRaises(AttributeError):
            first.threshold = 2
        self.assertEqual([first(4), first(5), first.threshold], [0, 4, 5])


class Amounts(unittest.TestCase):
    def test_one_leaf(self):
        for least in range(1, 15):
            for by in range(1, 7):
                rule = at_least(least, by)
                for amount in range(40):
                    wanted = max(many for many in range(0, amount + 1, by)) if amount >= least else 0
                    self.assertEqual([rule(amount), rule.rest(amount)], [wanted, amount - wanted])
                self.assertEqual(rule.threshold, max(least, by))

    def test_by_hand(self):
        pick = random.Random(1)
        for turn in range(200):
            tree = small_trees(pick, turn % 6 + 1, 20)
            rule = Rule(tree)
            for amount in range(70):
                self.assertEqual(rule(amount), by_hand(tree, amount))
                self.assertEqual(rule.rest(amount), amount - by_hand(tree, amount))

    def test_threshold_is_the_least_amount_that_gives(self):
        pick = random.Random(2)
        for turn in range(200):
            rule = rule_of(pick, turn % 6 + 1, 20)
            self.assertEqual(rule.threshold, [amount for amount in range(30) if rule(amount)][0])
            for amount in range(100):
                self.assertIs(rule(amount) == 0, amount < rule.threshold)
                self.assertLess(rule.rest(amount), rule.threshold)
                self.assertLessEqual(rule(amount), amount)

    def test_threshold_of_trees(self):
        four, nine = at_least(4, 6), at_least(9)
        self.assertEqual([four.threshold, nine.threshold, (four | nine).threshold, (four & nine).threshold],
                         [6, 9, 6, 9])

    def test_long_numbers(self):
        rule = at_least(LONG, 6) & at_least(LONG + 2, 5)
        self.assertEqual(rule.threshold, LONG + 2)
        self.assertEqual([rule(LONG + 1), rule.rest(LONG + 1)], [0, LONG + 1])
        for amount in (LONG + 2, LONG + 3, 10 ** 39 - 1):
            self.assertEqual(rule(amount), min(amount // 6 * 6, amount // 5 * 5))
            self.assertEqual(rule.rest(amount), amount - rule(amount))
        self.assertEqual(at_least(LONG, 6)(LONG), LONG - LONG % 6)

    def test_a_rule_of_nothing_gives_nothing(self):
        self.assertEqual([at_least(1)(0), at_least(1).rest(0), late()(0)], [0, 0, 0])


class Equal(unittest.TestCase):
    def test_equal_with_unlike_trees(self):
        pairs = [
            (late(), at_least(5, 2)),
            (at_least(1, 6), at_least(6, 6)),
            (at_least(5, 6), at_least(4, 6)),
            (at_least(3) | at_least(9), at_least(3)),
            (at_least(3) & at_least(9), at_least(9)),
            (at_least(2, 2) | at_least(2, 1), at_least(2)),
            (at_least(7, 2) | at_least(7, 3), at_least(7, 3) | at_least(7, 2)),
            (at_least(LONG, 2) & at_least(3), at_least(LONG, 2)),
            (at_least(1, 6) & at_least(1, 3), at_least(1, 6)),
        ]
        for one, other in pairs:
            self.assertIs(one == other, True)
            self.assertIs(one != other, False)
            self.assertIs(other == one, True)

    def test_unlike_at_one_amount_alone(self):
        pairs = [
            (at_least(4, 2) & at_least(6), at_least(5, 2) & at_least(5, 1), 5),
            (at_least(5), at_least(6), 5),
            (at_least(LONG), at_least(LONG + 1), LONG),
            (at_least(LONG, 6), at_least(LONG + 1, 6), LONG),
            (at_least(2) & at_least(LONG - 1, 4), at_least(2) & at_least(LONG, 4), LONG - 1),
        ]
        for one, other, amount in pairs:
            self.assertIs(one == other, False)
            self.assertIs(one != other, True)
            unlike = [at for at in [*range(70), *range(LONG - 70, LONG + 70)] if one(at) != other(at)]
            self.assertEqual(unlike, [amount])

    def test_unlike_far_behind_the_start(self):
        # Multiples of 2 fall short of those that 3 and 5 have in common at 15 and 45 of each 60 alone.
        for start in (16, 46, 60 * LONG + 16, 60 * LONG + 46):
            two = at_least(start, 2)
            more = two | (at_least(start, 3) & at_least(start, 5))
            self.assertEqual([at - start for at in range(start, start + 60) if two(at) != more(at)], [29, 59])
            self.assertIs(two == more, False)
            self.assertIs(more == two, False)

    def test_by_hand(self):
        pick = random.Random(3)
        equal = 0
        for _ in range(1500):
            one, other = small_trees(pick, pick.randint(1, 3), 7), small_trees(pick, pick.randint(1, 3), 7)
            wanted = all(by_hand(one, amount) == by_hand(other, amount) for amount in range(90))
            equal += wanted and one != other
            self.assertIs(Rule(one) == Rule(other), wanted)
            self.assertIs(Rule(one) != Rule(other), not wanted)
        self.assertGreater(equal, 20)

    def test_equal_to_nothing_else(self):
        rule = at_least(5, 2)
        for thing in [*things(), rule.tree(), 5, "at"]:
            self.assertIs(rule == thing, False)
            self.assertIs(thing == rule, False)
            self.assertIs(rule != thing, True)

    def test_the_example(self):
        rule = late()
        self.assertEqual([rule(4), rule(5), rule(8), rule.rest(7), rule.threshold], [0, 4, 8, 1, 5])
        self.assertIs(rule == at_least(5, 2), True)
