"""Desks: lines and their answers."""

import random
import unittest

from given import SOON, example, great, mixed, other_names, renamed
from plain import some_plan, some_run, some_slow
from sharedpipe.book import Book
from sharedpipe.desk import Desk
from sharedpipe.errors import (BadGuide, BadSlow, Full, IsSlow, Narrow, NoCommand, Nothing, PipeError, Refused, Ring,
                               Twice, Unknown, Wrong)
from sharedpipe.formulas import bend, least_credit, terms
from sharedpipe.fullness import stopped
from sharedpipe.notation import read_run, show_deed, show_log, show_plan, show_run
from sharedpipe.papers import is_stop_run, stop_run
from sharedpipe.plans import Plan
from sharedpipe.rules import at_least
from sharedpipe.runs import is_run, played
from sharedpipe.slowsets import slow_sets
from sharedpipe.stops import stopping
from test_book import some_deed
from values import raised, things

PLAY = "play a pass b 1 1, put a 1 4, begin b 3, send b 1 1"
LINES = ["pool pipe 8 - -", "gone b", "house x 5 2/3 come -", "stream c 4 1 - - - -", "back", "again", "plan", "log",
         "stopping a", "run b a", "slow b", "least a", "terms a", "bend a a", PLAY]


def state(desk):
    """Return what can be asked of a Desk without a change that stays."""
    found = [desk.execute("plan"), desk.execute("log")]
    undone = []
    while True:
        try:
            undone.append(desk.execute("again"))
        except Nothing:
            break
    for _ in undone:
        desk.execute("back")
    return found + undone


def listed(names):
    return ",".join(names) or "-"


class Answers(unittest.TestCase):
    def ask(self, desk, lines):
        """Return the answers to lines."""
        return [desk.execute(line) for line in lines]

    def test_the_example(self):
        desk = Desk(example())
        self.assertEqual(self.ask(desk, ["stopping a", "pool pipe 8 - -", "stopping a", "least a"]),
                         ["b", "-", "-", "8"])
        self.assertEqual(self.ask(desk, ["terms a", "back", PLAY]), ["4+a 4+home", "pool pipe 8 - -", "b"])

    def test_deeds_and_what_they_answer(self):
        desk = Desk(example())
        self.assertEqual(self.ask(desk, ["pool pipe 3 - -", "stream c 5 1 - - - -", "pool pipe 30 - -", "gone b",
                                         "pool home 1 2 -"]),
                         ["a,b", "c", "-", "-", "a"])
        self.assertEqual(self.ask(desk, ["back", "back", "again"]), ["pool home 1 2 -", "gone b", "gone b"])
        self.assertEqual(desk.execute("log"), "pool pipe 3 - -\nstream c 5 1 - - - -\npool pipe 30 - -\ngone b")
        self.assertEqual(desk.execute("plan").split("\n"), ["pipe 30 2 read", "house home 5 1 read -",
                                                            "stream a 4 1 - home - -", "stream c 5 1 - - - -"])
        self.assertEqual(desk.execute("kind k 4 1 come -"), "-")
        raised(self, Nothing, desk.execute, "again")

    def test_an_empty_log(self):
        desk = Desk(example())
        self.assertEqual([desk.execute("log"), desk.execute("plan")], ["", show_plan(example())])
        for line in ("back", "again"):
            raised(self, Nothing, desk.execute, line)

    def test_questions(self):
        desk = Desk(mixed(13, 9, 6))
        self.assertEqual(self.ask(desk, ["stopping -", "stopping c,a", "stopping a,c", "stopping a,b,c,d,e"]),
                         ["a,b,c,d,e,f", "b,d,e,f", "b,d,e,f", "f"])
        self.assertEqual(self.ask(desk, ["slow a", "slow b"]), ["-", "-"])
        desk.execute("pool pipe 99 - -")
        self.assertEqual(desk.execute("slow b"), "none")
        desk = Desk(example())
        self.assertEqual(self.ask(desk, ["slow b", "slow a", "run a b", "bend b b", "bend b a", "bend a a", "least -",
                                         "terms -"]),
                         ["a", "none", "safe", "-", "3", "5", "4", "4"])
        self.assertTrue(is_stop_run(example(), "b", ["a"], read_run(desk.execute("run b a"))))
        streams = {"a": (5, SOON, None, "home", None, None), "b": (3, SOON, None, "home", None, None),
                   "c": (2, SOON, None, None, None, None), "d": (9, SOON, None, None, None, None)}
        four = Desk(Plan((6, SOON, "read"), {"home": (99, SOON, "read", None)}, {}, streams))
        self.assertEqual(self.ask(four, ["slow d", "pool pipe 5 - -", "slow d"]), ["a,b a,c", "-", "a b,c"])

    def test_play(self):
        desk = Desk(example())
        run = PLAY[len("play a "):]
        self.assertEqual(self.ask(desk, ["play a " + run, "play - " + run, "play b " + run, "play a -",
                                         "play a pass b 1 1", "play - put a 4 1"]),
                         ["b", "-", "-", "-", "-", "-"])
        # What is no run of the Plan is told whatever the slow set is.
        for slow in ("a", "-", "z", "a,a", "a,b"):
            self.assertEqual(self.ask(desk, [f"play {slow} put a 5 1", f"play {slow} fetch a 1",
                                             f"play {slow} put c 1 1",
                                             f"play {slow} {run}, send b 1 1"]), ["no"] * 4)
        for slow in ("z", "a,a", "a,b", "home"):
            raised(self, BadSlow, desk.execute, f"play {slow} {run}")
            raised(self, BadSlow, desk.execute, f"play {slow} -")
        full = Desk(Plan((3, at_least(4), "read"), {}, {}, {"a": (9, SOON, None, None, None, None),
                                                            "b": (9, SOON, None, None, None, None)}))
        self.assertEqual(full.execute("play - pass a 1 3"), "a,b")

    def test_against_the_functions(self):
        pick = random.Random(109)
        done = 0
        for _ in range(50):
            plan = some_plan(pick)
            desk, book = Desk(plan), Book(plan)
            for _ in range(8):
                slow, stream = some_slow(pick, book.plan()), pick.choice(book.plan().streams())
                some = listed(slow)
                plan = book.plan()
                self.assertEqual(desk.execute("stopping " + some), listed(stopping(plan, slow)))
                self.assertEqual(desk.execute("least " + some), str(least_credit(plan, slow)))
                rows = [[str(constant)] + list(names) for constant, names in terms(plan, slow)]
                self.assertEqual(desk.execute("terms " + some), " ".join(["+".join(row) for row in rows]))
                found = bend(plan, slow, stream)
                self.assertEqual(desk.execute(f"bend {stream} {some}"), "-" if found is None else str(found))
                sets = [listed(one) for one in slow_sets(plan, stream)]
                self.assertEqual(desk.execute("slow " + stream), " ".join(sets) or "none")
                if stream not in slow:
                    run = stop_run(plan, stream, slow)
                    answer = desk.execute(f"run {stream} {some}")
                    self.assertEqual(answer == "safe", run is None)
                    if run is not None:
                        self.assertEqual(desk.execute(f"play {some} {answer}"),
                                         listed(stopped(played(plan, read_run(answer)), slow)))
                run = some_run(pick, plan, 8)
                self.assertEqual(desk.execute(f"play {some} {show_run(run)}"), listed(stopped(played(plan, run), slow)))
                broken = run + [("fetch", stream, 99)]
                self.assertFalse(is_run(plan, broken))
                self.assertEqual(desk.execute(f"play {some} {show_run(broken)}"), "no")
                deed = some_deed(pick, plan)
                if book.tried(deed):
                    self.assertEqual(desk.execute(show_deed(deed)), listed(book.do(deed)))
                    done += 1
                else:
                    before = state(desk)
                    with self.assertRaises(PipeError):
                        desk.execute(show_deed(deed))
                    self.assertEqual(state(desk), before)
                self.assertEqual([desk.execute("plan"), desk.execute("log")], [show_plan(book.plan()), show_log(book)])
        self.assertGreater(done, 80)

    def test_other_names(self):
        pick = random.Random(110)
        for _ in range(30):
            plan = some_plan(pick)
            names = other_names(pick, plan)
            one, other = Desk(plan), Desk(renamed(plan, names))
            slow = some_slow(pick, plan)
            stream = pick.choice(plan.streams())
            like, some, again = names[stream], listed(slow), listed([names[name] for name in slow])

            def put(text, sign):
                return sign.join([names.get(word, word) for word in text.split(sign)])

            self.assertEqual(put(one.execute(f"stopping {some}"), ","), other.execute(f"stopping {again}"))
            self.assertEqual(one.execute(f"least {some}"), other.execute(f"least {again}"))
            self.assertEqual(one.execute(f"bend {stream} {some}"), other.execute(f"bend {like} {again}"))
            rows = [put(row, "+") for row in one.execute(f"terms {some}").split(" ")]
            self.assertEqual(" ".join(rows), other.execute(f"terms {again}"))
            sets = [put(row, ",") for row in one.execute(f"slow {stream}").split(" ")]
            self.assertEqual(" ".join(sets), other.execute(f"slow {like}"))

    def test_great_numbers(self):
        desk = Desk(great())
        self.assertEqual(desk.execute("stopping a,b,e"), "c,d")
        self.assertEqual(desk.execute("least a,b,e"), str(3 * 10 ** 38 + 10 ** 38 // 2 + 8))
        self.assertIn("put ", desk.execute("run c a,b,e"))

    def test_two_desks_go_on_by_themselves(self):
        plan = example()
        one, other = Desk(plan), Desk(plan)
        one.execute("gone b")
        self.assertEqual([other.execute("log"), plan], ["", example()])


class Errors(unittest.TestCase):
    def desks(self):
        """Return a Desk with a deed done and two undone, and one at which nothing was done."""
        desk = Desk(example())
        for line in ("pool pipe 7 - -", "house x 9 1 read -", "stream c 4 1 - x - -"):
            desk.execute(line)
        desk.execute("back")
        desk.execute("back")
        return [desk, Desk(example())]

    def check(self, line, error):
        """Check that a line raises an error and changes nothing; return what the error tells."""
        told = None
        for desk in self.desks():
            before = state(desk)
            told = list(vars(raised(self, error, desk.execute, line)).values())
            self.assertEqual(state(desk), before)
        return told

    def test_what_is_no_command(self):
        bad = ["", " ", "\n", "stop a", "stopping", "stopping ", "stopping a b", "stopping  a", "stopping a ",
               " stopping a", "stopping a, b", "stopping a,", "stopping ,a", "stopping a,,b", "stopping A",
               "stopping -,a", "stopping --", "stopping abcdefghi", "stopping a\n", "Stopping a", "stopping a;b",
               "run", "run b", "run b a a", "run a,b c", "run - a", "run B a", "run  b a", "run b  a", "slow",
               "slow -", "slow a b", "slow a,b", "slow a ", "least", "least a a", "least a ", "least 3", "terms",
               "terms a b", "terms A", "bend", "bend a", "bend a b c", "bend a,b a", "bend 3 a", "bend - a",
               "play", "play a", "play a ", "play a  pass b 1 1", "play a pass b 1", "play pass b 1 1",
               "play a pass b 1 1,", "play a pass b 1 1,put a 1 4", "play a - -", "play a pass b 0 1",
               "play A pass b 1 1", "play A put a 5 1", "play a no", "back ",
               "back a", "again again", "plan plan", " plan", "log\n", "log log", "do", "gone", "gone a b",
               "gone b\ngone a", "pool pipe 8 -", "pool pipe 8 - - ", "pool pipe 0 - -", "pool pipe 08 - -",
               "pool pipe 8 5/1 -", "stream c 4 1 - - -", "house x 5 2/3 come", "pipe 3 1 read", "('gone', 'a')",
               "BACK", "quit", "pool pipe " + "1" * 40 + " - -"]
        for line in bad + things() + [("gone", "a"), ["back"], 7]:
            self.check(line, NoCommand)

    def test_words_lacking_and_more(self):
        for line in LINES:
            words = line.split(" ")
            for at in range(len(words)):
                for other in (words[:at] + words[at + 1:], words[:at] + [words[at]] + words[at:],
                              words[:at] + [""] + words[at:], words + [""]):
                    text = " ".join(other)
                    if text in ("play pass b 1 1, put a 1 4, begin b 3, send b 1 1", "stream c 4 1 - - -"):
                        self.check(text, NoCommand)
                    elif line != PLAY or "" in other or len(other) < 3:
                        if text != line:
                            self.check(text, NoCommand)

    def test_what_the_functions_raise(self):
        cases = [("run z a", Unknown, ["z"]), ("run home z", Unknown, ["home"]), ("run b z", BadSlow, []),
                 ("run a a", IsSlow, ["a"]),
                 ("run a a,b", BadSlow, []), ("stopping z", BadSlow, []), ("stopping a,a", BadSlow, []),
                 ("stopping a,b", BadSlow, []),
                 ("least pipe", BadSlow, []), ("terms a,b", BadSlow, []), ("slow pipe", Unknown, ["pipe"]),
                 ("slow z", Unknown, ["z"]),
                 ("bend z a", Unknown, ["z"]), ("bend home z", Unknown, ["home"]), ("bend a z", BadSlow, []),
                 ("bend a b,b", BadSlow, []),
                 ("play z -", BadSlow, []), ("gone pipe", Refused, [("gone", "pipe")]),
                 ("gone z", Refused, [("gone", "z")]),
                 ("pool z 3 - -", Refused, [("pool", "z", 3, None, None)]),
                 ("pool a - - read", Refused, [("pool", "a", None, None, "read")]),
                 ("stream pipe 4 1 - - - -", Twice, ["pipe"]), ("gone home", Unknown, ["home"]),
                 ("house home 5 1 read home", Ring, ["home"]),
                 ("stream a 4 1 - home - a", BadGuide, ["a"]), ("pool a - 5 -", Narrow, ["a"])]
        for line, error, told in cases:
            self.assertEqual(self.check(line, error), told)
        alone = Desk(Plan((3, SOON, "read"), {}, {}, {"a": (3, SOON, None, None, None, None)}))
        self.assertEqual(raised(self, Wrong, alone.execute, "gone a").place, 3)
        self.assertEqual([alone.execute("log"), alone.execute("stopping -")], ["", "-"])

    def test_a_full_log(self):
        desk = Desk(example())
        for credit in range(60):
            desk.execute(f"pool pipe {credit + 20} - -")
        for line in ("gone b", "gone z", "pool a - - read"):
            self.assertEqual(raised(self, Full, desk.execute, line).limit, 60)
        raised(self, NoCommand, desk.execute, "gone")
        self.assertEqual([len(desk.execute("log").split("\n")), desk.execute("back"), desk.execute("gone b")],
                         [60, "pool pipe 79 - -", "-"])
