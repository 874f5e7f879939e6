"""Books: deeds that are done, undone and refused."""

import random
import unittest

from given import SOON, example, mixed, other_names, renamed
from plain import some_plan, some_rule
from sharedpipe.book import Book
from sharedpipe.errors import (BadGuide, Full, Narrow, NoDeed, NoEntry, Nothing, PipeError, Refused, Ring, Twice,
                               Unknown, Wrong)
from sharedpipe.plans import Plan
from sharedpipe.rules import at_least
from sharedpipe.stops import stopping
from values import LONG, raised, things

GROUP = (5, SOON, "read", None)
STREAM = (5, SOON, None, None, None, None)
DEEDS = [("pool", "pipe", 9, None, None), ("house", "hall", GROUP), ("stream", "c", (5, SOON, 2, "hall", None, None)),
         ("kind", "sort", (7, at_least(2), "come", None)), ("gone", "b"), ("pool", "hall", None, at_least(3), "come")]


def state(book):
    """Return all that can be asked of a Book, what was undone too."""
    other = book.copied()
    undone = []
    while True:
        try:
            undone.append(other.again())
        except Nothing:
            break
    return (book.plan(), book.log(), undone, [book.past(many) for many in range(len(book) + 1)])


def by_hand(plan, deed):
    """Return the Plan behind a deed, worked out from the words of the document; raise what do raises."""
    pipe, houses, kinds, streams = plan.parts()
    word, name = deed[:2]
    if word == "pool":
        if name not in plan or name in streams and deed[4] is not None:
            raise Refused(deed)
        told = [new if new is not None else old for new, old in zip(deed[2:], plan[name])]
        if name == "pipe":
            return Plan(tuple(told), houses, kinds, streams)
        for table in (houses, kinds, streams):
            if name in table:
                told = told[:2] if table is streams else told
                table[name] = tuple(told) + table[name][len(told):]
    elif word == "gone":
        if name not in list(houses) + list(kinds) + list(streams):
            raise Refused(deed)
        for table in (houses, kinds, streams):
            table.pop(name, None)
    else:
        {"house": houses, "kind": kinds, "stream": streams}[word][name] = deed[2]
    return Plan(pipe, houses, kinds, streams)


def some_deed(pick, plan):
    """Return a deed chosen by pick that often can be done."""
    names = plan.shared() + plan.streams() + ["new", "newer"]
    name = pick.choice(names)
    rule = some_rule(pick)
    credit, moment = rule.threshold + pick.randint(0, 9), pick.choice(["come", "read"])
    word = pick.choice(["pool", "pool", "stream", "house", "kind", "gone"])
    if word == "pool":
        return (word, name, pick.choice([None, credit]), pick.choice([None, rule]), pick.choice([None, None, moment]))
    if word == "gone":
        return (word, name)
    if word == "stream":
        house, kind = pick.choice([None] + plan.houses()), pick.choice([None] + plan.kinds())
        guide = pick.choice([None, None] + plan.streams())
        return (word, pick.choice(plan.streams() + ["new"]), (credit + 2, rule, pick.choice([None, 1, 3]), house, kind,
                                                              guide))
    groups = plan.houses() if word == "house" else plan.kinds()
    return (word, pick.choice(groups + ["new"]), (credit, rule, moment, pick.choice([None] + groups)))


class Deeds(unittest.TestCase):
    def test_all_kinds(self):
        book = Book(example())
        self.assertEqual([book.plan(), book.log(), len(book)], [example(), [], 0])
        plan = example()
        for many, deed in enumerate(DEEDS):
            book.do(deed)
            plan = by_hand(plan, deed)
            self.assertEqual([book.plan(), book.log(), len(book)], [plan, DEEDS[:many + 1], many + 1])
        pipe, houses, kinds, streams = book.plan().parts()
        self.assertEqual(pipe, (9, at_least(2), "read"))
        self.assertEqual(houses, {"hall": (5, at_least(3), "come", None), "home": (5, SOON, "read", None)})
        self.assertEqual(kinds, {"sort": (7, at_least(2), "come", None)})
        self.assertEqual(streams, {"a": (4, SOON, None, "home", None, None), "c": (5, SOON, 2, "hall", None, None)})

    def test_a_pool_keeps_what_is_none(self):
        plan = example()
        for name in ("pipe", "home", "a"):
            book = Book(plan)
            self.assertEqual(book.do(("pool", name, None, None, None)), [])
            self.assertEqual([book.plan(), len(book)], [plan, 1])
            book.do(("pool", name, 7, None, None))
            self.assertEqual(book.plan()[name], (7,) + plan[name][1:])
            book.do(("pool", name, None, at_least(4), None))
            self.assertEqual(book.plan()[name], (7, at_least(4)) + plan[name][2:])
        book.do(("pool", "pipe", None, None, "come"))
        self.assertEqual(book.plan()["pipe"][2], "come")

    def test_streams_and_groups_become_what_is_told(self):
        book = Book(example())
        book.do(("stream", "a", (9, at_least(2), 3, None, None, "b")))
        self.assertEqual([book.plan().most("a"), book.plan().guide("a"), book.plan().over("a")],
                         [3, "b", ["a", "pipe"]])
        book.do(("house", "home", (3, SOON, "come", None)))
        self.assertEqual(book.plan()["home"], (3, SOON, "come"))
        book.do(("gone", "home"))
        self.assertEqual(book.plan().houses(), [])

    def test_the_streams_that_can_be_stopped_only_now(self):
        book = Book(example())
        self.assertEqual(book.do(("pool", "pipe", 3, None, None)), ["a", "b"])
        self.assertEqual(book.do(("pool", "pipe", 2, None, None)), [])
        self.assertEqual(book.do(("stream", "c", STREAM)), ["c"])
        self.assertEqual(book.do(("pool", "pipe", 30, None, None)), [])
        self.assertEqual(book.do(("pool", "home", 1, at_least(2), None)), ["a"])
        self.assertEqual(book.do(("pool", "pipe", 3, None, None)), ["b", "c"])
        self.assertEqual(book.do(("gone", "c")), [])

    def test_against_the_words(self):
        pick = random.Random(100)
        done = refused = fresh = 0
        for _ in range(60):
            book = Book(some_plan(pick))
            for _ in range(15):
                deed, plan, before = some_deed(pick, book.plan()), book.plan(), state(book)
                tried = book.tried(deed)
                self.assertEqual(state(book), before)
                try:
                    due = by_hand(plan, deed)
                except PipeError as error:
                    self.assertIs(tried, False)
                    found = raised(self, error.__class__, book.do, deed)
                    self.assertEqual(vars(found), vars(error))
                    self.assertEqual(state(book), before)
                    refused += 1
                    continue
                self.assertIs(tried, True)
                news = [stream for stream in stopping(due, []) if stream not in stopping(plan, [])]
                self.assertEqual(book.do(deed), news)
                self.assertEqual(state(book), (due, before[1] + [deed], [], before[3] + [due]))
                fresh += len(news)
                done += 1
                if pick.random() < 0.2:
                    book.back()
        self.assertGreater(min(done, refused), 100)
        self.assertGreater(fresh, 15)


class Errors(unittest.TestCase):
    def refused(self, book, deed, error):
        """Check that a deed is refused, what was undone stays, and return the error."""
        before = state(book)
        found = raised(self, error, book.do, deed)
        self.assertIs(book.tried(deed), False)
        self.assertEqual(state(book), before)
        return found

    def books(self):
        """Return Books with and without things undone, one of them full."""
        plain, undone, full = Book(example()), Book(example()), Book(example())
        for deed in DEEDS[:3]:
            undone.do(deed)
        undone.back()
        undone.back()
        for credit in range(61):
            if credit < 60:
                full.do(("pool", "pipe", 30 + credit, None, None))
        return [plain, undone, full]

    def test_what_is_no_deed(self):
        bad = [("gone",), ("gone", "a", None), ("gone", "A"), ("gone", ""), ("gone", None), ("gone", "abcdefghi"),
               ("went", "a"),
               ["gone", "a"], ("pool", "a"), ("pool", "pipe", 3), ("pool", "pipe", 3, None),
               ("pool", "pipe", 3, None, None, None),
               ("pool", "pipe", 0, None, None), ("pool", "pipe", True, None, None), ("pool", "pipe", "3", None, None),
               ("pool", "pipe", -1, None, None), ("pool", "pipe", None, 3, None),
               ("pool", "pipe", None, ("at", 1, 1), None),
               ("pool", "pipe", None, None, "now"), ("pool", "pipe", None, None, True), ("pool", 1, None, None, None),
               ("house", "a"), ("house", "x", GROUP, None), ("house", "x", list(GROUP)), ("house", "x", GROUP[:3]),
               ("house", "x", STREAM), ("house", "x", None), ("kind", "x", (0,) + GROUP[1:]),
               ("kind", "x", (5, None, "read", None)),
               ("kind", "x", (5, SOON, None, None)), ("kind", "x", (5, SOON, "read", "")),
               ("kind", "x", (5, SOON, "read", 1)),
               ("kind", "X", GROUP), ("stream", "x", GROUP), ("stream", "x", STREAM[:5]),
               ("stream", "x", (True,) + STREAM[1:]),
               ("stream", "x", (5, SOON, 0, None, None, None)), ("stream", "x", (5, SOON, True, None, None, None)),
               ("stream", "x", (5, SOON, None, "", None, None)), ("stream", "x", (5, SOON, None, None, 3, None)),
               ("stream", "x", (5, SOON, None, None, None, False)), ("stream", "x", (5, 1, None, None, None, None)),
               ("stream", "x", list(STREAM)), ("stream", "x"), (None, "a"), ("", "a"), ("Gone", "a"), ()]
        for book in self.books():
            for deed in bad + things():
                self.refused(book, deed, NoDeed)

    def test_things_put_otherwise(self):
        for deed in DEEDS:
            for at in range(len(deed)):
                for thing in things():
                    changed = deed[:at] + (thing,) + deed[at + 1:]
                    if not (deed[0] == "pool" and at > 1 and thing is None):
                        self.refused(Book(example()), changed, NoDeed)

    def test_the_log_is_full(self):
        book = self.books()[2]
        self.assertEqual(len(book), 60)
        for deed in DEEDS + [("gone", "z"), ("gone", "a"), ("pool", "pipe", 3, None, None), ("stream", "pipe", STREAM)]:
            self.assertEqual(self.refused(book, deed, Full).limit, 60)
        book.back()
        self.assertEqual(self.refused(book, ("gone", "z"), Refused).deed, ("gone", "z"))
        self.assertIs(book.tried(("gone", "b")), True)
        book.do(("gone", "b"))
        self.assertEqual(self.refused(book, ("gone", "a"), Full).limit, 60)

    def test_deeds_that_are_refused(self):
        for deed in [("gone", "z"), ("gone", "pipe"), ("pool", "z", None, None, None), ("pool", "z", 3, None, "come"),
                     ("pool", "a", None, None, "read"), ("pool", "b", 1, None, "come"),
                     ("pool", "a", None, at_least(99), "read")]:
            for book in self.books()[:2]:
                self.assertIs(self.refused(book, deed, Refused).deed, deed)

    def test_what_plan_raises(self):
        cases = [(("stream", "pipe", STREAM), Twice, "pipe"), (("house", "pipe", GROUP), Twice, "pipe"),
                 (("kind", "home", GROUP), Twice, "home"), (("stream", "home", STREAM), Twice, "home"),
                 (("house", "a", GROUP), Twice, "a"), (("gone", "home"), Unknown, "home"),
                 (("stream", "c", (5, SOON, None, "hall", None, None)), Unknown, "hall"),
                 (("stream", "c", (5, SOON, None, None, "home", None)), Unknown, "home"),
                 (("house", "home", (5, SOON, "read", "home")), Ring, "home"),
                 (("house", "hall", (5, SOON, "read", "hall")), Ring, "hall"),
                 (("stream", "b", (5, SOON, None, None, None, "b")), BadGuide, "b"),
                 (("stream", "b", (5, SOON, None, None, None, "a")), BadGuide, "b"),
                 (("pool", "a", None, at_least(5), None), Narrow, "a"), (("pool", "b", 2, None, None), Narrow, "b"),
                 (("pool", "pipe", 1, None, "come"), Narrow, "pipe"),
                 (("pool", "home", None, at_least(6), "come"), Narrow, "home"),
                 (("stream", "c", (1, at_least(2), None, None, None, None)), Narrow, "c")]
        for deed, error, name in cases:
            for book in self.books()[:2]:
                self.assertEqual(self.refused(book, deed, error).name, name)
        book = Book(Plan((5, SOON, "read"), {}, {}, {"a": STREAM}))
        self.assertEqual(self.refused(book, ("gone", "a"), Wrong).place, 3)
        for name in "bcdef":
            book.do(("stream", name, STREAM))
        self.assertEqual(self.refused(book, ("stream", "g", STREAM), Wrong).place, 3)
        for name in ("ha", "hb", "hc"):
            book.do(("house", name, GROUP))
        for name in ("ka", "kb", "kc"):
            book.do(("kind", name, GROUP))
        self.assertEqual(self.refused(book, ("house", "hd", GROUP), Wrong).place, 2)
        self.assertEqual(self.refused(book, ("kind", "kd", GROUP), Wrong).place, 2)
        guided = Book(Plan((9, SOON, "read"), {}, {}, {"a": STREAM[:5] + ("b",), "b": STREAM}))
        self.assertEqual(self.refused(guided, ("gone", "b"), Unknown).name, "b")
        self.assertEqual(self.refused(guided, ("stream", "b", STREAM[:5] + ("a",)), BadGuide).name, "a")


class Back(unittest.TestCase):
    def test_back_and_again(self):
        book = Book(example())
        raised(self, Nothing, book.back)
        raised(self, Nothing, book.again)
        for deed in DEEDS:
            book.do(deed)
        plans = [book.past(many) for many in range(len(DEEDS) + 1)]
        for many in range(len(DEEDS), 0, -1):
            self.assertIs(book.back(), DEEDS[many - 1])
            self.assertEqual([book.plan(), book.log(), len(book)], [plans[many - 1], DEEDS[:many - 1], many - 1])
        raised(self, Nothing, book.back)
        for many, deed in enumerate(DEEDS):
            self.assertIs(book.again(), deed)
            self.assertEqual([book.plan(), book.log()], [plans[many + 1], DEEDS[:many + 1]])
        raised(self, Nothing, book.again)
        self.assertEqual([book.past(many) for many in range(len(DEEDS) + 1)], plans)

    def test_a_deed_ends_what_was_undone(self):
        book = Book(example())
        for deed in DEEDS[:3]:
            book.do(deed)
        book.back()
        book.back()
        raised(self, Refused, book.do, ("gone", "z"))
        self.assertIs(book.tried(("gone", "b")), True)
        self.assertEqual(book.again(), DEEDS[1])
        book.back()
        book.do(("gone", "b"))
        raised(self, Nothing, book.again)
        self.assertEqual(book.log(), [DEEDS[0], ("gone", "b")])
        book.back()
        self.assertEqual([book.again(), len(book)], [("gone", "b"), 2])

    def test_past(self):
        book = Book(example())
        for deed in DEEDS:
            book.do(deed)
        plan = example()
        for many, deed in enumerate(DEEDS):
            self.assertEqual(book.past(many), plan)
            plan = by_hand(plan, deed)
        self.assertEqual(book.past(len(DEEDS)), plan)
        for many in [-1, 7, 60, LONG, "1", "a"] + things():
            self.assertIs(raised(self, NoEntry, book.past, many).many, many)
        book.back()
        self.assertEqual(raised(self, NoEntry, book.past, 6).many, 6)

    def test_the_plan_is_the_one_to_which_the_log_leads(self):
        pick = random.Random(15)
        for _ in range(40):
            begun = some_plan(pick)
            book = Book(begun)
            for _ in range(30):
                word = pick.choice(["do", "do", "do", "back", "again", "tries"])
                try:
                    if word == "do":
                        book.do(some_deed(pick, book.plan()))
                    elif word == "tries":
                        book.tries(lambda other: [other.back(), other.do(some_deed(pick, other.plan()))])
                    elif word == "back":
                        book.back()
                    else:
                        book.again()
                except PipeError:
                    pass
                plan = begun
                for many, deed in enumerate(book.log()):
                    self.assertEqual(book.past(many), plan)
                    plan = by_hand(plan, deed)
                self.assertEqual([book.plan(), book.past(len(book))], [plan, plan])


class Tries(unittest.TestCase):
    def book(self):
        """Return a Book with three deeds done and two undone."""
        book = Book(example())
        for deed in DEEDS[:5]:
            book.do(deed)
        book.back()
        book.back()
        return book

    def test_what_it_returns(self):
        book = self.book()
        before = state(book)
        seen = []

        def act(other):
            seen.append(other is book)
            other.do(("gone", "b"))
            other.back()
            other.back()
            other.do(("pool", "pipe", 3, None, None))
            return (other.log(), other.plan()["pipe"][0])

        found = book.tries(act)
        self.assertEqual(found, (DEEDS[:2] + [("pool", "pipe", 3, None, None)], 3))
        self.assertEqual([state(book), seen], [before, [True]])
        thing = object()
        self.assertIs(book.tries(lambda other: thing), thing)
        self.assertIsNone(book.tries(lambda other: None))
        self.assertEqual(book.tries(len), 3)

    def test_an_error_goes_on(self):
        book = self.book()
        before = state(book)

        def act(other):
            other.do(("gone", "b"))
            other.do(("gone", "b"))

        self.assertEqual(raised(self, Refused, book.tries, act).deed, ("gone", "b"))
        self.assertEqual(state(book), before)
        error = KeyError("x")

        def other_act(other):
            other.back()
            raise error

        with self.assertRaises(KeyError) as caught:
            book.tries(other_act)
        self.assertIs(caught.exception, error)
        self.assertEqual(state(book), before)

    def test_tries_in_tries(self):
        book = self.book()
        before = state(book)

        def inner(other):
            other.do(("stream", "d", STREAM))
            raise ValueError()

        def outer(other):
            other.do(("pool", "pipe", 3, None, None))
            inside = state(other)
            with self.assertRaises(ValueError):
                other.tries(inner)
            self.assertEqual(state(other), inside)
            self.assertEqual(other.tries(lambda third: [third.do(("gone", "b")), len(third)]), [[], 5])
            self.assertEqual(state(other), inside)
            return len(other)

        self.assertEqual([book.tries(outer), state(book)], [4, before])

    def test_what_was_undone_is_there_again(self):
        book = self.book()
        book.tries(lambda other: other.do(("gone", "b")))
        self.assertEqual([book.again(), book.again()], DEEDS[3:5])
        raised(self, Nothing, book.again)


class Books(unittest.TestCase):
    def test_equal(self):
        one, other = Book(example()), Book(example())
        self.assertTrue(one == other)
        one.do(DEEDS[0])
        self.assertFalse(one == other)
        other.do(("pool", "pipe", 9, None, None))
        self.assertTrue(one == other)
        other.do(DEEDS[1])
        other.back()
        # What was undone does not count; where they began does, and so do deeds that change nothing.
        self.assertTrue(one == other)
        nine = Book(example().with_pool("pipe", credit=9))
        self.assertEqual(nine.plan(), one.plan())
        self.assertFalse(nine == one)
        nine.do(DEEDS[0])
        self.assertFalse(nine == one)
        one.do(("pool", "a", None, at_least(1) | at_least(2), None))
        other.do(("pool", "a", None, SOON, None))
        self.assertTrue(one == other)
        for thing in things() + [example(), 0, one.log()]:
            self.assertIs(Book(example()) == thing, False)

    def test_copies_go_on_by_themselves(self):
        book = Book(example())
        for deed in DEEDS[:4]:
            book.do(deed)
        book.back()
        before = state(book)
        other = book.copied()
        self.assertTrue(other == book)
        self.assertEqual(state(other), before)
        other.again()
        other.do(("gone", "b"))
        self.assertEqual(state(book), before)
        third = book.copied()
        book.back()
        book.do(("gone", "b"))
        self.assertEqual(state(third), before)

    def test_nothing_is_shared(self):
        plan = example()
        book = Book(plan)
        book.do(DEEDS[0]).append("z")
        book.log().clear()
        self.assertEqual([book.log(), len(book), plan], [[DEEDS[0]], 1, example()])

    def test_other_names(self):
        pick = random.Random(101)
        for _ in range(30):
            plan = some_plan(pick)
            names = other_names(pick, plan)
            one, other = Book(plan), Book(renamed(plan, names))
            for _ in range(12):
                deed = some_deed(pick, plan)
                if any([word in ("new", "newer") for word in deed[1:2]]) or not one.tried(deed):
                    continue
                if deed[0] in ("pool", "gone"):
                    like = deed[:1] + (names[deed[1]],) + deed[2:]
                else:
                    told = tuple([names[part] if isinstance(part, str) and part in names else part for part in deed[2]])
                    like = deed[:1] + (names[deed[1]], told)
                self.assertIs(other.tried(like), True)
                self.assertEqual(other.do(like), [names[name] for name in one.do(deed)])
                left = one.plan().shared() + one.plan().streams()
                self.assertEqual(other.plan(), renamed(one.plan(), {name: names[name] for name in left}))
                plan = one.plan()

    def test_a_plan_of_all_kinds(self):
        book = Book(mixed(40, 40, 40))
        self.assertEqual(raised(self, Unknown, book.do, ("gone", "f")).name, "f")
        self.assertEqual(raised(self, Unknown, book.do, ("gone", "room")).name, "room")
        self.assertEqual(raised(self, BadGuide, book.do, ("stream", "f", (8, at_least(4), 3, None, None, None))).name,
                         "e")
        self.assertEqual(book.do(("house", "home", (4, at_least(3), "read", None))), ["c", "d", "e", "f"])
        self.assertEqual(book.log(), [("house", "home", (4, at_least(3), "read", None))])
