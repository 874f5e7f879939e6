"""Texts of rules, plans, steps, runs, deeds and logs, there and back."""

import random
import unittest

from given import SOON, example, great, mixed, other_names, renamed
from plain import some_plan, some_run, some_step
from sharedpipe.book import Book
from sharedpipe.errors import BadGuide, Broken, Narrow, NoText, PipeError, Ring, Twice, Unknown, Wrong
from sharedpipe.notation import (read_deed, read_log, read_plan, read_rule, read_run, read_step, show_deed, show_log,
                                 show_plan, show_rule, show_run, show_step)
from sharedpipe.plans import Plan
from sharedpipe.rules import Rule, at_least
from test_book import some_deed
from values import LONG, late, raised, rule_of, things

PLAN = """pipe 30 5 read
house home 12 3 read -
house room 20 2/2 read home
kind sort 9 4/3 read -
stream a 5 2 - - sort -
stream b 6 1 1 - - -
stream c 6 3 - room sort -
stream d 7 2 4 room sort -
stream e 5 4 - home - f
stream f 8 4 3 home - -"""
STEPS = {"begin a 5 wait": ("begin", "a", 5, True), "begin a 5": ("begin", "a", 5, False),
         "send a 1 4": ("send", "a", 1, 4), "put a 1 3": ("put", "a", 1, 3, False), "put a 1 3 wait": ("put", "a", 1, 3,
         True),
         "read a 2 1": ("read", "a", 2, 1), "fetch b 1": ("fetch", "b", 1), "pass a 1 9": ("pass", "a", 1, 9),
         "put wait 1 2 wait": ("put", "wait", 1, 2, True), "put wait 1 2": ("put", "wait", 1, 2, False),
         "begin wait 2": ("begin", "wait", 2, False), "begin begin 2 wait": ("begin", "begin", 2, True),
         f"pass abcdefgh {LONG} 1": ("pass", "abcdefgh", LONG, 1)}
GROUP = (5, at_least(2, 3), "come")
DEEDS = {"pool pipe 8 - -": ("pool", "pipe", 8, None, None), "pool a - - -": ("pool", "a", None, None, None),
         "pool home - (5/2&3) -": ("pool", "home", None, late(), None), "pool home - - come": ("pool", "home", None,
         None, "come"),
         "pool home 3 2/6 read": ("pool", "home", 3, at_least(2, 6), "read"), "gone a": ("gone", "a"),
         "gone pipe": ("gone", "pipe"), "house x 5 2/3 come -": ("house", "x", GROUP + (None,)),
         "house x 5 2/3 come y": ("house", "x", GROUP + ("y",)), "kind x 5 2/3 come -": ("kind", "x", GROUP + (None,)),
         "kind kind 5 2/3 come kind": ("kind", "kind", GROUP + ("kind",)), "stream a 4 1 - - - -": ("stream", "a", (4,
         SOON, None, None, None, None)),
         "stream a 4 1 3 h k g": ("stream", "a", (4, SOON, 3, "h", "k", "g")),
         "stream pipe 4 1 - h - pipe": ("stream", "pipe", (4, SOON, None, "h", None, "pipe"))}


def changed_texts(text, signs="a1-0 /()|&,%\n"):
    """Return texts that differ in a sign or two: out, in, exchanged for others, and with its neighbour."""
    found = []
    for at in range(len(text) + 1):
        found += [text[:at] + sign + text[at:] for sign in signs]
        if at < len(text):
            found += [text[:at] + text[at + 1:]]
            found += [text[:at] + sign + text[at + 1:] for sign in signs]
            found += [text[:at] + text[at:at + 2][::-1] + text[at + 2:]]
    return [other for other in found if other != text]


def changed_words(text, between=" "):
    """Return texts with a word out, twice, or exchanged with another one."""
    words = text.split(between)
    found = []
    for at, word in enumerate(words):
        found += [words[:at] + words[at + 1:], words[:at] + [word] + words[at:], words[:at] + [""] + words[at:]]
        for other in range(at):
            found.append(words[:other] + [word] + words[other + 1:at] + [words[other]] + words[at + 1:])
    return [other for other in [between.join(row) for row in found] if other != text]


class Texts(unittest.TestCase):
    def there_and_back(self, read, show, texts):
        """Check that each text that can be read is the one that is shown of what it is; return how many can."""
        found = 0
        for text in texts:
            try:
                thing = read(text)
            except NoText:
                continue
            except PipeError:
                continue
            self.assertEqual(show(thing), text)
            found += 1
        return found


class Rules(Texts):
    def test_there_and_back(self):
        rules = {"1": SOON, "5/2": at_least(5, 2), "(5/2&3)": late(), "(1|2/6)": at_least(1) | at_least(2, 6),
                 "((1|2)&(3/3|4))": (at_least(1) | at_least(2)) & (at_least(3, 3) | at_least(4)),
                 "(((((1|2)|3)|4)|5)|6)": (at_least(1) | at_least(2) | at_least(3) | at_least(4) | at_least(5)
                                           | at_least(6)),
                 "(1&(2&(3&(4&(5&6/6)))))": None, str(LONG): at_least(LONG), f"{LONG}/6": at_least(LONG, 6)}
        for text, rule in rules.items():
            if rule is not None:
                self.assertEqual(show_rule(rule), text)
                self.assertEqual(read_rule(text).tree(), rule.tree())
            self.assertEqual(show_rule(read_rule(text)), text)
        self.assertIsInstance(read_rule("1"), Rule)

    def test_any_rule(self):
        pick = random.Random(102)
        for _ in range(200):
            rule = rule_of(pick, pick.randint(1, 6), 999)
            self.assertEqual(read_rule(show_rule(rule)).tree(), rule.tree())

    def test_what_is_no_rule(self):
        nines = "9" * 39
        self.assertEqual(read_rule(nines).tree(), ("at", int(nines), 1))
        bad = ["0", "01", "5/1", "5/0", "5/7", "5/02", "5/", "/2", "5/2/3", "-", "-1", "+1", "1.5", "1e3", "a", "(1)",
               "(1|)", "(|1)", "()", "(1|2", "1|2", "1|2)", "(1|2)3", "(1|2))", "((1|2)", "(1|2|3)", "(1||2)", "(1+2)",
               "(1 |2)", " 1", "1 ", "1\n", "(1|2)|3", "((((((1|2)|3)|4)|5)|6)|7)", "(1&(2&(3&(4&(5&(6&7))))))",
               nines + "1", "1" + "0" * 39,
               "5/" + "1" * 40, "\u0661", "\u00b2", "1_0", "(" * 5000, "(" * 200 + "1", "1" * 9000, "(1|1)" * 20]
        for text in bad + things():
            raised(self, NoText, read_rule, text)

    def test_a_sign_put_otherwise(self):
        pick = random.Random(103)
        for many in range(1, 7):
            for _ in range(3):
                text = show_rule(rule_of(pick, many, 99))
                self.assertGreater(self.there_and_back(read_rule, show_rule, changed_texts(text)), 3)


class Plans(Texts):
    def test_there_and_back(self):
        self.assertEqual(show_plan(mixed()), PLAN)
        self.assertEqual(read_plan(PLAN), mixed())
        two = "pipe 2 2 read\nstream a 1 1 - - - -\nstream b 1 1 1 - - -"
        self.assertEqual(show_plan(read_plan(two)), two)
        self.assertEqual(read_plan(show_plan(great())), great())
        nested = "pipe 6 2 come\nkind k 5 1 read l\nkind l 5 1 read -\nstream a 4 1 - - k -"
        self.assertEqual(read_plan(nested).over("a"), ["a", "k", "l", "pipe"])

    def test_any_plan(self):
        pick = random.Random(104)
        for _ in range(100):
            plan = some_plan(pick)
            self.assertEqual(read_plan(show_plan(plan)), plan)
            names = other_names(pick, plan)
            words = show_plan(plan).replace("\n", " \n ").split(" ")
            # Words such as house and read are no names here.
            like = " ".join([names.get(word, word) for word in words]).replace(" \n ", "\n")
            self.assertEqual(show_plan(renamed(plan, names)), like)

    def test_what_is_no_plan(self):
        lines = PLAN.split("\n")
        bad = ["", "\n", " ", "pipe", "pipe 30 5", "pipe 30 5 read ", " pipe 30 5 read", "pipe 30  5 read",
               "pipe - 5 read", "pipe 30 - read", "pipe 30 5 -", "pipe 0 5 read", "pipe 030 5 read", "pipe 30 5 now",
               "pipe read 5 read", "pipe pipe 5 read", "pipe 30 5 30", "pipe 30 read read", "pipe 30 5 read -",
               "house 30 5 read", "Pipe 30 5 read",
               PLAN + "\n", "\n" + PLAN, PLAN + "\n\n", PLAN.replace("\n", "\n\n", 1), PLAN.replace("\n", " "),
               PLAN.replace(" ", "  "),
               PLAN.replace("-", "None"), PLAN + "\npipe 30 5 read", PLAN.replace("30", "1" * 40), "\n".join(lines[1:]),
               PLAN + "\ngone a", PLAN + "\npool a - - -", "pipe 30 5 read\npool a 3 1 read\nstream a 5 2 - - - -"]
        for text in bad + things():
            raised(self, NoText, read_plan, text)

    def test_lines_out_twice_and_exchanged(self):
        lines = PLAN.split("\n")
        for at, line in enumerate(lines):
            raised(self, NoText, read_plan, "\n".join(lines[:at] + [line] + lines[at:]))
            for other in range(at):
                raised(self, NoText, read_plan,
                       "\n".join(lines[:other] + [line] + lines[other + 1:at] + [lines[other]] + lines[at + 1:]))
        errors = [NoText, Unknown, Unknown, Unknown, None, None, None, None, None, Unknown]
        for at, error in enumerate(errors):
            text = "\n".join(lines[:at] + lines[at + 1:])
            if error is None:
                self.assertEqual(show_plan(read_plan(text)), text)
            else:
                raised(self, error, read_plan, text)

    def test_a_sign_or_a_word_put_otherwise(self):
        text = show_plan(example())
        self.assertGreater(self.there_and_back(read_plan, show_plan, changed_texts(text)), 20)
        texts = [other for line in PLAN.split("\n") for other in [PLAN.replace(line, row)
                                                                  for row in changed_words(line)]]
        self.assertGreater(self.there_and_back(read_plan, show_plan, texts), 3)
        self.there_and_back(read_plan, show_plan, changed_words(PLAN, "\n"))

    def test_what_plan_raises(self):
        cases = [("pipe 3 1 read", Wrong, 3), ("pipe 3 1 read\nhouse h 3 1 read -", Wrong, 3),
                 ("pipe 3 1 read\nstream a 3 1 - - - -\nstream pipe 3 1 - - - -", Twice, "pipe"),
                 ("pipe 3 1 read\nhouse a 3 1 read -\nstream a 3 1 - - - -", Twice, "a"),
                 ("pipe 3 1 read\nhouse h 3 1 read -\nkind h 3 1 read -\nstream a 3 1 - - - -", Twice, "h"),
                 ("pipe 3 1 read\nstream a 3 1 - h - -", Unknown, "h"),
                 ("pipe 3 1 read\nhouse h 3 1 read h\nstream a 3 1 - h - -", Ring, "h"),
                 ("pipe 3 1 read\nstream a 3 1 - - - a", BadGuide, "a"),
                 ("pipe 3 1 read\nstream a 3 4 - - - -", Narrow, "a"),
                 ("pipe 3 4 come\nstream a 3 1 - - - -", Narrow, "pipe")]
        for text, error, told in cases:
            self.assertEqual(list(vars(raised(self, error, read_plan, text)).values()), [told])
        groups = "".join([f"\nhouse {sign} 3 1 read -" for sign in "bcdefgh"])
        self.assertEqual(raised(self, Wrong, read_plan, "pipe 3 1 read" + groups + "\nstream a 3 1 - - - -").place, 2)
        streams = "".join([f"\nstream a{sign} 3 1 - - - -" for sign in "abcdefg"])
        self.assertEqual(raised(self, Wrong, read_plan, "pipe 3 1 read" + streams).place, 3)
        many = "".join([f"\nstream {one}{two} 3 1 - - - -" for one in "abcdefghij" for two in "abcdefghij"])
        self.assertEqual(raised(self, Wrong, read_plan, "pipe 3 1 read" + many).place, 3)
        # What is no text at all comes first.
        raised(self, NoText, read_plan, "pipe 3 1 read" + streams + "\nstream x 3 1 - - -")


class Steps(Texts):
    def test_there_and_back(self):
        for text, step in STEPS.items():
            self.assertEqual(show_step(step), text)
            self.assertEqual(read_step(text), step)
            self.assertEqual([part.__class__ for part in read_step(text)], [part.__class__ for part in step])

    def test_any_step(self):
        pick = random.Random(105)
        for _ in range(300):
            step = some_step(pick, some_plan(pick))
            self.assertEqual(read_step(show_step(step)), step)

    def test_what_is_no_step(self):
        bad = ["", "begin", "begin a", "begin a wait", "begin a 0", "begin a 05", "begin a -1", "begin a 5 wait wait",
               "begin a 5 Wait", "begin a 5 w", "begin  a 5", " begin a 5", "begin a 5 ", "begin a 5\n", "begin A 5",
               "begin abcdefghi 5", "begin - 5", "begin a 5 False", "begin a 5 6",
               "send a 1", "send a 1 4 wait", "send a 1 4 5", "put a 1", "put a 1 wait", "put a 1 2 3",
               "put a 1 2 3 wait", "read a 1", "read a 1 2 wait", "fetch a", "fetch a 1 2", "fetch a wait",
               "fetch a 1 wait", "pass a 1", "pass a 1 2 wait", "Pass a 1 2",
               "pas a 1 2", "pass a 1,2", "pass a one 2", "pass a read 2", "fetch a read", "put a b 1",
               "put a 1 " + "1" * 40, "put a " + "9" * 40 + " 1", "begin a 5, begin a 5", "-", "pass wait",
               "begin wait", "put wait 1", "put wait 1 wait"]
        for text in bad + things():
            raised(self, NoText, read_step, text)
        self.assertEqual(read_step("put a 1 " + "9" * 39), ("put", "a", 1, 10 ** 39 - 1, False))

    def test_a_sign_or_a_word_put_otherwise(self):
        for text in STEPS:
            self.assertGreater(self.there_and_back(read_step, show_step, changed_texts(text) + changed_words(text)), 5)


class Runs(Texts):
    def test_there_and_back(self):
        text, run = ", ".join(STEPS), list(STEPS.values())
        self.assertEqual([show_run(run), show_run(tuple(run)), read_run(text)], [text, text, run])
        self.assertEqual([show_run([]), show_run(()), read_run("-")], ["-", "-", []])
        self.assertEqual([show_run(run[:1]), read_run("begin a 5 wait")], ["begin a 5 wait", run[:1]])
        self.assertIsInstance(read_run(text), list)

    def test_any_run(self):
        pick = random.Random(106)
        for _ in range(50):
            plan = some_plan(pick)
            run = some_run(pick, plan, 20)
            self.assertEqual(read_run(show_run(run)), run)

    def test_what_is_no_run(self):
        bad = ["", " ", "--", "-, -", "begin a 5,", "begin a 5, ", ", begin a 5", "begin a 5,fetch b 1",
               "begin a 5 , fetch b 1", "begin a 5,  fetch b 1", "begin a 5, , fetch b 1", "begin a 5\nfetch b 1",
               "begin a 5, -", "begin a 5, fetch b", "begin a 5;fetch b 1"]
        for text in bad + things():
            raised(self, NoText, read_run, text)

    def test_a_sign_or_a_word_put_otherwise(self):
        text = "begin a 5 wait, send a 1 4, fetch b 1"
        texts = changed_texts(text) + changed_words(text) + changed_words(text, ", ") + changed_words(text, ",")
        self.assertGreater(self.there_and_back(read_run, show_run, texts), 20)

    def test_the_caller_may_change_what_comes(self):
        read_run("begin a 5").clear()
        self.assertEqual(read_run("begin a 5"), [("begin", "a", 5, False)])
        run = [("begin", "a", 5, False)]
        show_run(run)
        self.assertEqual(run, [("begin", "a", 5, False)])


class Deeds(Texts):
    def test_there_and_back(self):
        for text, deed in DEEDS.items():
            self.assertEqual(show_deed(deed), text)
            self.assertEqual(read_deed(text), deed)

    def test_any_deed(self):
        pick = random.Random(107)
        for _ in range(300):
            deed = some_deed(pick, some_plan(pick))
            self.assertEqual(read_deed(show_deed(deed)), deed)

    def test_what_is_no_deed(self):
        bad = ["", "gone", "gone a b", "gone -", "gone A", "gone  a", "gone a ", " gone a", "gone a\n",
               "gone a\ngone b", "Gone a", "pool a", "pool a - -", "pool a - - - -", "pool - - - -", "pool a 0 - -",
               "pool a 01 - -", "pool a - 0 -", "pool a - - -1", "pool a - - now", "pool a - 1/1 -",
               "pool a None - -", "pool a read - -", "pool a b - -", "pool a - read -", "pool a - - b", "pool a - - 3",
               "pool a - (1) -", "pool a " + "1" * 40 + " - -", "house x 5 2/3 come", "house x - 2/3 come -",
               "house x 5 - come -", "house x 5 2/3 - -", "house x 5 2/3 come - -", "house - 5 2/3 come -",
               "house x 5 2/3 come Y", "kind x 5 2/3 come", "kind x 0 1 come -",
               "stream a 4 1 - - -", "stream a 4 1 - - - - -", "stream a - 1 - - - -", "stream a read 1 - - - -",
               "stream a 4 1 read - - -", "stream a 4 1 b - - -", "house b 5 2/3 b -", "stream a 4 - - - - -",
               "stream a 4 1 0 - - -", "stream a 4 1 - - - 3", "stream a 4 1 - h,k - -", "stream 4 1 - - - -",
               "pipe 30 5 read", "back", "-"]
        for text in bad + things():
            raised(self, NoText, read_deed, text)

    def test_a_sign_or_a_word_put_otherwise(self):
        for text in DEEDS:
            self.assertGreater(self.there_and_back(read_deed, show_deed, changed_texts(text) + changed_words(text)), 1)


class Logs(Texts):
    def test_there_and_back(self):
        pick = random.Random(108)
        longest = 0
        for _ in range(40):
            begun = some_plan(pick)
            book = Book(begun)
            self.assertEqual([show_log(book), read_log(begun, "") == book], ["", True])
            for _ in range(12):
                deed = some_deed(pick, book.plan())
                if book.tried(deed):
                    book.do(deed)
            text = show_log(book)
            self.assertEqual(text, "\n".join([show_deed(deed) for deed in book.log()]))
            other = read_log(begun, text)
            self.assertIsInstance(other, Book)
            self.assertEqual([other == book, other.plan(), other.log()], [True, book.plan(), book.log()])
            longest = max(longest, len(book))
            # What was undone stands in no text.
            if len(book):
                book.back()
                self.assertEqual(show_log(book), "\n".join(text.split("\n")[:-1]))
        self.assertGreater(longest, 5)

    def test_the_first_deed_that_is_refused(self):
        good = ["pool pipe 8 - -", "gone b", "house x 5 1 read -"]
        for wrong in ("gone z", "gone pipe", "pool z - - -", "pool a - - read", "stream pipe 4 1 - - - -",
                      "house home 5 1 read home", "pool a - 9 -", "gone home", "stream c 4 1 - nohouse - -",
                      "stream a 4 1 - - - a"):
            for at in range(4):
                lines = good[:at] + [wrong] + good[at:] + ["gone z"]
                self.assertEqual(raised(self, Broken, read_log, example(), "\n".join(lines)).at, at)
        self.assertEqual(raised(self, Broken, read_log, example(), "gone b\ngone a").at, 1)

    def test_the_log_is_full(self):
        text = "\n".join(["pool pipe 8 - -"] * 60)
        self.assertEqual(len(read_log(example(), text)), 60)
        for more in ("gone b", "gone z"):
            self.assertEqual(raised(self, Broken, read_log, example(), text + "\n" + more).at, 60)

    def test_what_is_no_log(self):
        for text in ["\n", "gone a\n", "\ngone a", "gone a\n\ngone b", " ", "-", "gone z\nback", "gone z\ngone",
                     "pool a - 9 -\n5"] + things():
            if text != "":
                # Ahead of Broken, too.
                raised(self, NoText, read_log, example(), text)

    def test_nothing_is_shared(self):
        plan = example()
        one = read_log(plan, "pool pipe 8 - -")
        one.do(("gone", "b"))
        self.assertEqual([plan, read_log(plan, "pool pipe 8 - -").log()],
                         [example(), [("pool", "pipe", 8, None, None)]])
        book = Book(plan)
        show_log(book)
        self.assertEqual(book, Book(plan))


class Examples(unittest.TestCase):
    def test_great_numbers_are_shown(self):
        # What comes of long numbers may be longer, and has a text.
        plan = great().with_pool("pipe", credit=10 ** 40)
        self.assertIn("pipe " + str(10 ** 40), show_plan(plan))
        raised(self, NoText, read_plan, show_plan(plan))
        self.assertEqual(show_step(("put", "a", 10 ** 40, 1, True)), "put a " + str(10 ** 40) + " 1 wait")

    def test_a_plan_of_parts(self):
        plan = Plan((2, at_least(2), "read"), {}, {}, {"b": (1, SOON, 1, None, None, None),
                                                       "a": (1, SOON, None, None, None, None)})
        self.assertEqual(show_plan(plan), "pipe 2 2 read\nstream a 1 1 - - - -\nstream b 1 1 1 - - -")
