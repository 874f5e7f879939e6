"""[20], [2]: the kinds of plain values."""

import unittest

from sharedpipe.errors import PipeError
from sharedpipe.kinds import is_integer, is_letters, is_moment, is_name, is_number
from sharedpipe.rules import at_least
from values import LONG, things


class Kinds(unittest.TestCase):
    def test_integers(self):
        for thing in [0, 1, -1, LONG, -LONG, 10 ** 900]:
            self.assertIs(is_integer(thing), True)
        for thing in [*things(), "1", [1], (1,), at_least(1)]:
            self.assertIs(is_integer(thing), False)

    def test_numbers(self):
        for least, thing, told in [(0, 0, True), (0, -1, False), (1, 0, False), (1, 1, True), (-3, -3, True),
                                   (-3, -4, False), (LONG, LONG, True), (LONG, LONG - 1, False), (0, LONG, True)]:
            self.assertIs(is_number(least, thing), told)
        for thing in [*things(), "1", at_least(1)]:
            self.assertIs(is_number(-5, thing), False)

    def test_truths_are_no_numbers(self):
        for least in (-1, 0, 1):
            self.assertIs(is_number(least, True), False)
            self.assertIs(is_number(least, False), False)

    def test_names(self):
        for thing in ["a", "z", "abcdefgh", "zzzzzzzz", "pipe"]:
            self.assertIs(is_name(thing), True)
        for thing in [*things(), "abcdefghi", "A", "aB", "a1", "a b", "a\n", "`", "{", "a`", "a{", "_", "\u00e4",
                      5, b"a", ["a"], ("a",), "a" * 10000, at_least(1)]:
            self.assertIs(is_name(thing), False)

    def test_letters(self):
        for thing in [" ", "~", " ~", "a", "Hello, you!", "$&", "a" * 400, ";:,", "'\"\\"]:
            self.assertIs(is_letters(thing), True)
        for thing in [*things(), chr(31), chr(127), chr(37), "a" + chr(37), "a\n", "\n", "a\u00e9", "\u0416",
                      5, b"a", ["a"], at_least(1)]:
            self.assertIs(is_letters(thing), False)

    def test_each_sign(self):
        for number in range(300):
            told = 32 <= number <= 126 and number != 37
            self.assertIs(is_letters(chr(number)), told)
            self.assertIs(is_letters("a" + chr(number) + "b"), told)
            self.assertIs(is_name(chr(number)), 97 <= number <= 122)

    def test_moments(self):
        self.assertIs(is_moment("come"), True)
        self.assertIs(is_moment("read"), True)
        for thing in [*things(), "Come", "comes", "rea", "came", " read", b"read", ["read"], ("come", "read"), 1,
                      at_least(1)]:
            self.assertIs(is_moment(thing), False)

    def test_nothing_is_raised_or_changed(self):
        thing = [[1], {"a": [2]}]
        for ask in (is_integer, is_name, is_letters, is_moment):
            try:
                ask(thing)
            except PipeError:
                self.fail("raised")
        self.assertEqual(thing, [[1], {"a": [2]}])
