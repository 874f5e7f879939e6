"""Readers: what comes, what is read, and what is given back."""

import unittest

from sharedpipe.errors import BadFrame, NoCredit, Unknown, Unready
from sharedpipe.frames import show_frame
from sharedpipe.plans import Plan
from sharedpipe.reader import Reader
from sharedpipe.rules import at_least
from values import LONG, raised, things

SOON = at_least(1)
NAMES = ["a", "b", "c", "g", "home", "pipe"]


def plan(own=30, home=40, pipe=50, moment="read"):
    """Return a Plan with a, read in any parts, b, read whole, both in home with their guide g, and c."""
    streams = {"a": (own, SOON, None, "home", None, "g"), "b": (own, SOON, 20, "home", None, "g"),
               "c": (own, at_least(3), None, None, None, None), "g": (own, SOON, None, "home", None, None)}
    return Plan((pipe, at_least(2), moment), {"home": (home, at_least(5), moment, None)}, {}, streams)


def told(reader):
    """Return all that can be asked of a Reader."""
    pools = [(reader.left_of(name), reader.unpassed_of(name), reader.withheld_of(name)) for name in NAMES]
    return (pools, [(reader.lying(stream), reader.readable(stream)) for stream in "abcg"])


def after(*texts, at=None):
    """Return the Reader of a Plan behind these texts."""
    reader = Reader(at or plan())
    for text in texts:
        reader.take(text)
    return reader


class Taking(unittest.TestCase):
    def test_letters_come(self):
        reader = Reader(plan())
        self.assertIsNone(reader.take("da,3,:abc;db,2,:xy;dc,4,e:letr;"))
        self.assertEqual(told(reader), (
            [(27, 3, 0), (28, 2, 0), (26, 4, 0), (30, 0, 0), (35, 5, 0), (41, 9, 0)],
            [([(3, False)], 3), ([], 0), ([(4, False)], 4), ([], 0)]))
        reader.take("db,1,e:z;db,3,e:uvw;db,1,e:1;")
        self.assertEqual([reader.lying("b"), reader.readable("b")], [[(3, 2, False), (1, 1, False)], 3])

    def test_messages_that_wait(self):
        reader = after("da,3,w:abc;db,2,we:xy;db,2,e:zz;da,1,:d;dg,1,:g;")
        self.assertEqual([reader.lying("a"), reader.lying("b"), reader.readable("a"), reader.readable("b")],
                         [[(4, True)], [(2, 1, True), (2, 1, False)], 0, 0])
        reader.take("dg,1,e:h;da,1,e:e;db,2,we:oo;")
        self.assertEqual([reader.lying("a"), reader.lying("b"), reader.readable("a"), reader.readable("b")],
                         [[(5, False)], [(2, 2, False), (2, 1, True)], 5, 2])
        self.assertEqual(reader.read("b", 2), ["xy", "zz"])
        raised(self, Unready, reader.read, "b", 1)

    def test_a_message_in_hand_that_waits_is_released(self):
        reader = after("db,2,w:xy;dg,1,e:g;db,1,e:z;")
        self.assertEqual([reader.lying("b"), reader.read("b", 1)], [[(3, 1, False)], ["xyz"]])

    def test_texts_cut_at_every_place(self):
        text = "da,12,w:ab:;,1d,ba,7;db,2,we:;;;dg,1,e:g;dc,10,:0123456789;da,1,e:!;"
        whole = after(text)
        for at in range(len(text) + 1):
            for end in range(at, len(text) + 1, 3):
                reader = after(text[:at], text[at:end], text[end:])
                self.assertEqual(told(reader), told(whole))
        reader = after(*text)
        self.assertEqual(told(reader), told(whole))
        self.assertEqual(reader.read("a", 13), ["ab:;,1d,ba,7!"])
        self.assertEqual([reader.read("b", 1), reader.read("c", 10)], [[";;"], ["0123456789"]])

    def refuses(self, text, error, field=None, worth=None, at=None):
        """Check that a text is not taken, alone and behind the beginning of a frame, and that nothing changes."""
        for start, rest in (("", ""), ("dc,2,:", "ab;")):
            reader, other = [after("da,3,w:abc;db,2,:xy;dc,4,e:letr;", start, at=at) for _ in range(2)]
            found = raised(self, error, reader.take, rest + text)
            if field:
                self.assertEqual(getattr(found, field), worth)
            self.assertEqual(told(reader), told(other))
            # What came ahead of it stays as it was.
            for end in (rest + "dc,1,e:y;db,1,e:z;", "dg,1,e:g;"):
                if not (start and end.startswith("dg")):
                    reader.take(end)
                    other.take(end)
            self.assertEqual(told(reader), told(other))
            self.assertEqual([reader.read("c", 4), reader.backs()], [other.read("c", 4), other.backs()])

    def test_frames_that_cannot_come(self):
        bad = ["dz,1,:x;", "dhome,1,:x;", "dpipe,1,:x;", "ba,1;", "bpipe,1;", "da,1,w:x;", "da,1,we:x;", "dc,1,w:x;",
               "dg,1,w:g;", "db,1,w:z;", "db,19,:" + "z" * 19 + ";", "db,18,:" + "z" * 18 + ";db,1,e:z;",
               "db,1,e:z;db,21,:" + "z" * 21 + ";", "da,1,e:x;da,1,we:y;da,1,we:z;da,1,w:x;da,1,w:x;", "x", "da,0",
               "da,1,:xx",
               "da,1,:\n", "da,1,:x;\n", "dg,1,e:g;dg,1,we:h;", "db,1,e:z;db,20,:" + "z" * 20 + ";db,1,:z;"]
        for text in bad:
            self.refuses(text, BadFrame)
            self.refuses("da,1,:x;dc,1,e:y;" + text, BadFrame)
            self.refuses(text + "dc,1,e:y;" if text.endswith(";") else text, BadFrame)

    def test_bad_frames_come_ahead_of_credit(self):
        small = plan(30, 9, 14)
        over = "da,5,:xxxxx;"
        self.refuses(over, NoCredit, "name", "home", at=small)
        for text in (over + "ba,1;", over + "dz,1,:x;", over + "da,1,w:x;", over + "dg,1,w:x;", over + "x",
                     over + "db,19,:" + "z" * 19 + ";"):
            self.refuses(text, BadFrame, at=small)

    def test_most_counts_for_each_message(self):
        reader = after("db,20,:" + "z" * 20 + ";")
        raised(self, BadFrame, reader.take, "db,1,e:z;")
        reader = after("db,19,:" + "z" * 19 + ";db,1,e:z;")
        self.assertEqual(reader.read("b", 1), ["z" * 20])
        reader.take("db,20,e:" + "y" * 20 + ";")
        self.assertEqual(reader.read("b", 1), ["y" * 20])

    def test_long_messages_of_many_frames(self):
        reader = Reader(plan(1000, 1000, 1000))
        for at in range(4):
            reader.take(show_frame(("data", "c", str(at) * 200, False, at == 3)))
        self.assertEqual(reader.read("c", 450), ["0" * 200 + "1" * 200 + "2" * 50])
        self.assertEqual([reader.readable("c"), reader.read("c", 350)], [350, ["2" * 150 + "3" * 200]])


class Credit(unittest.TestCase):
    def pools(self, own, house, hall, pipe, moment="read", rule=SOON):
        return Plan((pipe, rule, moment), {"hall": (hall, rule, moment, None), "house": (house, rule, moment, "hall")},
                    {},
                    {"a": (own, SOON, None, "house", None, None), "b": (99, SOON, None, None, None, None)})

    def lacks(self, reader, text, name):
        self.assertEqual(raised(self, NoCredit, reader.take, text).name, name)

    def test_just_enough_and_one_too_small(self):
        names = ["a", "house", "hall", "pipe"]
        for at, name in enumerate(names):
            credits = [9] * 4
            credits[at] = 5
            Reader(self.pools(*credits)).take("da,5,:12345;")
            Reader(self.pools(*credits)).take("da,2,:12;da,2,e:34;da,1,:5;")
            credits[at] = 4
            for text in ("da,5,:12345;", "da,2,:12;da,2,e:34;da,1,:5;"):
                reader = Reader(self.pools(*credits))
                self.lacks(reader, text, name)
                self.assertEqual([reader.left_of(name), reader.lying("a")], [4, []])
                self.assertEqual(reader.backs(), "")

    def test_the_first_pool_of_the_first_frame(self):
        reader = Reader(self.pools(9, 5, 4, 3))
        self.lacks(reader, "da,4,:1234;da,9,:123456789;", "pipe")
        self.lacks(reader, "da,6,:123456;", "house")
        self.lacks(reader, "da,5,:12345;", "hall")
        self.lacks(reader, "db,3,:123;da,6,:123456;", "house")
        self.lacks(reader, "db,4,:1234;da,6,:123456;", "pipe")
        self.lacks(reader, "da,10,:1234567890;", "a")

    def test_credit_that_comes_back_when_letters_come(self):
        # Here what is given back is left at once, for the next frame of the string, too.
        reader = Reader(self.pools(99, 5, 5, 5, "come", at_least(4, 3)))
        reader.take("da,4,:1234;da,4,:1234;da,3,:123;")
        self.assertEqual([reader.left_of("pipe"), reader.unpassed_of("pipe"), reader.withheld_of("pipe")], [3, 0, 2])
        self.assertEqual(reader.backs(), "bhall,9;bhouse,9;bpipe,9;")
        self.lacks(reader, "da,4,:1234;", "house")
        reader.take("da,3,:123;")
        self.assertEqual(reader.backs(), "bhall,3;bhouse,3;bpipe,3;")


class Reading(unittest.TestCase):
    def test_in_any_parts(self):
        reader = after("dc,3,e:abc;dc,2,:de;dc,1,e:f;")
        self.assertEqual([reader.read("c", many) for many in (1, 3, 2)], [["a"], ["bcd"], ["ef"]])
        self.assertEqual([reader.lying("c"), reader.readable("c")], [[], 0])

    def test_what_is_read_together_is_one_amount(self):
        reader = after("da,10,:0123456789;")
        reader.read("a", 4)
        self.assertEqual([reader.withheld_of("home"), reader.withheld_of("pipe"), reader.left_of("a")], [4, 0, 24])
        reader.read("a", 1)
        self.assertEqual([reader.withheld_of("home"), reader.withheld_of("pipe")], [0, 1])
        reader = after("db,4,e:abcd;db,1,e:e;")
        self.assertEqual(reader.read("b", 2), ["abcd", "e"])
        self.assertEqual([reader.withheld_of("home"), reader.withheld_of("pipe")], [0, 1])

    def test_whole_messages(self):
        reader = after("db,3,e:abc;db,3,e:def;db,1,e:g;db,2,:hi;")
        self.assertEqual([reader.readable("b"), reader.read("b", 1), reader.read("b", 2)], [3, ["abc"], ["def", "g"]])
        raised(self, Unready, reader.read, "b", 1)
        reader.take("db,2,e:jk;")
        self.assertEqual(reader.read("b", 1), ["hijk"])

    def test_more_than_is_readable(self):
        reader = after("dc,3,e:abc;db,3,e:abc;db,2,:de;da,2,e:xy;da,2,w:zz;")
        before = told(reader)
        for stream, many in (("c", 4), ("b", 2), ("a", 3), ("g", 1), ("c", LONG), ("b", LONG)):
            self.assertEqual(raised(self, Unready, reader.read, stream, many).stream, stream)
            self.assertEqual(told(reader), before)
        self.assertEqual([reader.read("c", 3), reader.read("b", 1), reader.read("a", 2)], [["abc"], ["abc"], ["xy"]])

    def test_names_that_there_are_not(self):
        reader = Reader(plan())
        for name in things() + ["z", "home", "pipe", 5]:
            self.assertIs(raised(self, Unknown, reader.read, name, 1).name, name)
            self.assertIs(raised(self, Unknown, reader.lying, name).name, name)
            self.assertIs(raised(self, Unknown, reader.readable, name).name, name)
        for name in things() + ["z", 5]:
            for query in (reader.left_of, reader.unpassed_of, reader.withheld_of):
                self.assertIs(raised(self, Unknown, query, name).name, name)

    def test_backs(self):
        reader = after("dc,3,e:abc;da,7,e:1234567;")
        self.assertEqual(reader.backs(), "")
        reader.read("a", 4)
        self.assertEqual(reader.backs(), "ba,4;bpipe,4;")
        self.assertEqual(reader.backs(), "")
        reader.read("a", 1)
        reader.read("c", 2)
        reader.read("a", 2)
        # Of the pipe: 1 is withheld, then 3 are given, then 2; of home: 5 together, then none.
        self.assertEqual(reader.backs(), "ba,3;bhome,5;bpipe,5;")
        self.assertEqual([reader.left_of("c"), reader.withheld_of("c"), reader.withheld_of("home")], [27, 2, 2])
        reader.read("c", 1)
        self.assertEqual([reader.backs(), reader.withheld_of("pipe")], ["bc,3;", 1])

    def test_copies_go_on_by_themselves(self):
        reader = after("dc,3,e:abc;db,2,:xy;dc,4,:12")
        copy = reader.copied()
        self.assertEqual(told(copy), told(reader))
        copy.take("34;db,1,e:z;")
        self.assertEqual([copy.readable("c"), reader.readable("c"), copy.readable("b"), reader.readable("b")],
                         [7, 3, 1, 0])
        self.assertEqual([copy.read("c", 5), copy.read("b", 1), copy.backs()],
                         [["abc12"], ["xyz"], "bb,3;bc,5;bpipe,8;"])
        self.assertEqual(reader.backs(), "")
        reader.take("!!;")
        self.assertEqual([reader.read("c", 4), reader.backs()], [["abc1"], "bc,4;bpipe,4;"])
        self.assertEqual(copy.read("c", 2), ["34"])

    def test_copies_that_read_at_once(self):
        reader = after("dc,3,e:abc;db,2,e:xy;")
        before = told(reader)
        copy = reader.copied()
        self.assertEqual([copy.read("c", 2), copy.read("b", 1), copy.backs()], [["ab"], ["xy"], "bb,2;bpipe,4;"])
        self.assertEqual([told(reader), reader.backs()], [before, ""])
        self.assertEqual([reader.read("c", 3), reader.read("b", 1)], [["abc"], ["xy"]])
        self.assertEqual(copy.read("c", 1), ["c"])

    def test_what_was_returned_belongs_to_the_caller(self):
        reader = after("dc,3,e:abc;db,2,e:xy;")
        before = told(reader)
        reader.lying("c").clear()
        reader.lying("b").append(1)
        self.assertEqual(told(reader), before)
        reader.read("b", 1).append("x")
        self.assertEqual(told(reader), told(reader))

    def test_what_is_no_string(self):
        reader = after("dc,3,e:abc;")
        before = told(reader)
        for thing in things():
            if not isinstance(thing, str):
                raised(self, BadFrame, reader.take, thing)
        self.assertEqual(told(reader), before)

    def test_fifteen_hundred_frames(self):
        reader = Reader(plan(LONG, LONG, LONG))
        reader.take("".join([show_frame(("data", "c", chr(97 + at % 26) * 200, False, at % 3 == 0))
                             for at in range(1500)]))
        self.assertEqual(reader.readable("c"), 300000)
        read = "".join([reader.read("c", 7)[0] for _ in range(300000 // 7)])
        self.assertEqual(read, "".join([chr(97 + at % 26) * 200 for at in range(1500)])[:300000 // 7 * 7])
