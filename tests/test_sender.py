"""Senders: what they send, and credit that they are given back."""

import unittest

from sharedpipe.errors import BadFrame, Unknown, Unready
from sharedpipe.frames import read_frames
from sharedpipe.plans import Plan
from sharedpipe.rules import at_least
from sharedpipe.sender import Sender
from values import LONG, raised, things

SOON = at_least(1)


def plan(own=30, home=40, pipe=50, moment="read"):
    """Return a Plan with a, read in any parts, b, read whole, both in home with their guide g, and c."""
    streams = {"a": (own, SOON, None, "home", None, "g"), "b": (own, SOON, 20, "home", None, "g"),
               "c": (own, at_least(3), None, None, None, None), "g": (own, SOON, None, "home", None, None)}
    return Plan((pipe, at_least(2), moment), {"home": (home, at_least(5), moment, None)}, {}, streams)


def told(sender):
    """Return all that can be asked of a Sender."""
    return ([sender.left_of(name) for name in ("a", "b", "c", "g", "home", "pipe")],
            [sender.unsent(stream) for stream in "abcg"])


def futures(sender, texts):
    """Return what comes of a Sender by each of these texts."""
    found = []
    for text in texts:
        copy = sender.copied()
        try:
            copy.take(text)
            found.append(told(copy))
        except BadFrame:
            found.append("BadFrame")
    return found


class Writing(unittest.TestCase):
    def test_write(self):
        sender = Sender(plan())
        self.assertIsNone(sender.write("a", "hello"))
        self.assertIsNone(sender.write("a", "x" * 400))
        sender.write("b", "y" * 20, waits=True)
        sender.write("b", "z")
        self.assertEqual(told(sender), ([30, 30, 30, 30, 40, 50], [405, 21, 0, 0]))

    def test_names_that_are_no_streams(self):
        sender = Sender(plan())
        for name in things() + ["z", "home", "pipe", 5]:
            self.assertIs(raised(self, Unknown, sender.write, name, "x").name, name)
            self.assertIs(raised(self, Unknown, sender.write, name, "x" * 30, waits=True).name, name)
            self.assertIs(raised(self, Unknown, sender.frame, name, 1).name, name)
            self.assertIs(raised(self, Unknown, sender.unsent, name).name, name)
        for name in things() + ["z", 5]:
            self.assertIs(raised(self, Unknown, sender.left_of, name).name, name)

    def test_messages_that_cannot_be_written(self):
        sender = Sender(plan())
        self.assertEqual(raised(self, Unready, sender.write, "b", "x" * 21).stream, "b")
        self.assertEqual(raised(self, Unready, sender.write, "b", "x" * 21, waits=True).stream, "b")
        for stream in "cg":
            self.assertEqual(raised(self, Unready, sender.write, stream, "x", waits=True).stream, stream)
            sender.write(stream, "x", waits=False)
        self.assertEqual(told(sender), ([30, 30, 30, 30, 40, 50], [0, 0, 1, 1]))
        with self.assertRaises(TypeError):
            sender.write("a", "x", True)


class Sending(unittest.TestCase):
    def test_at_most_many(self):
        sender = Sender(plan())
        sender.write("c", "hello")
        self.assertEqual([sender.frame("c", many) for many in (1, 3, 9, 9)],
                         ["dc,1,:h;", "dc,3,:ell;", "dc,1,e:o;", ""])
        self.assertEqual(told(sender), ([30, 30, 25, 30, 40, 45], [0, 0, 0, 0]))

    def test_at_most_what_is_left_of_the_message(self):
        sender = Sender(plan())
        for text in ("one", "two", "x"):
            sender.write("c", text)
        self.assertEqual([sender.frame("c", LONG) for _ in range(4)], ["dc,3,e:one;", "dc,3,e:two;", "dc,1,e:x;", ""])

    def test_at_most_two_hundred(self):
        sender = Sender(plan(1000, 1000, 1000))
        sender.write("c", "x" * 199 + "y" * 201)
        self.assertEqual(sender.frame("c", 500), "dc,200,:" + "x" * 199 + "y;")
        self.assertEqual(sender.unsent("c"), 200)
        self.assertEqual(sender.frame("c", 201), "dc,200,e:" + "y" * 200 + ";")
        sender.write("c", "z" * 201)
        self.assertEqual(sender.frame("c", 201), "dc,200,:" + "z" * 200 + ";")
        self.assertEqual(sender.frame("c", 201), "dc,1,e:z;")

    def test_at_most_what_each_pool_has_left(self):
        for credits, size in (((7, 9, 9), 7), ((9, 7, 9), 7), ((9, 9, 7), 7), ((7, 7, 7), 7)):
            for moment in ("read", "come"):
                sender = Sender(Plan((credits[2], SOON, moment), {"home": (credits[1], SOON, moment, None)}, {}, {
                    "a": (credits[0], SOON, None, "home", None, None)}))
                sender.write("a", "abcdefghij")
                self.assertEqual(sender.frame("a", 20), "da,7,:abcdefg;")
                self.assertEqual(sender.frame("a", 20), "")
                self.assertEqual(sender.unsent("a"), 3)
                self.assertEqual(min([sender.left_of(name) for name in ("a", "home", "pipe")]), 7 - size)

    def test_streams_share_credit(self):
        sender = Sender(plan(30, 9, 12))
        for stream in "abc":
            sender.write(stream, stream * 20)
        self.assertEqual(sender.frame("a", 5), "da,5,:aaaaa;")
        self.assertEqual(sender.frame("b", 20), "db,4,:bbbb;")
        self.assertEqual(sender.frame("c", 20), "dc,3,:ccc;")
        self.assertEqual(sender.frame("c", 20), "")
        self.assertEqual(told(sender), ([25, 26, 27, 30, 0, 0], [15, 16, 17, 0]))

    def test_waiting_stands_in_the_first_frame(self):
        sender = Sender(plan())
        sender.write("a", "abc", waits=True)
        sender.write("a", "d", waits=True)
        sender.write("a", "ef")
        self.assertEqual([sender.frame("a", 2) for _ in range(5)],
                         ["da,2,w:ab;", "da,1,e:c;", "da,1,we:d;", "da,2,e:ef;", ""])

    def test_letters_that_are_signs_of_frames(self):
        sender = Sender(plan(500, 500, 500))
        signs = "da,1,:;;ba,2;" + "".join([chr(at) for at in range(32, 127) if at != 37])
        sender.write("a", signs)
        self.assertEqual(read_frames(sender.frame("a", 400)), ([("data", "a", signs, False, True)], ""))

    def test_nothing_written(self):
        sender = Sender(plan())
        self.assertEqual([sender.frame(stream, 9) for stream in "abcg"], [""] * 4)
        sender.write("a", "x")
        self.assertEqual(sender.frame("b", 9), "")


class Taking(unittest.TestCase):
    def sender(self):
        """Return a Sender that sent 6 letters of a, and 4 of c, with more to send."""
        sender = Sender(plan())
        sender.write("a", "a" * 9)
        sender.write("c", "c" * 4)
        sender.frame("a", 6)
        sender.frame("c", 4)
        return sender

    def test_credit_comes_back(self):
        sender = self.sender()
        self.assertEqual(told(sender), ([24, 30, 26, 30, 34, 40], [3, 0, 0, 0]))
        self.assertIsNone(sender.take("ba,2;bhome,1;"))
        self.assertEqual(told(sender), ([26, 30, 26, 30, 35, 40], [3, 0, 0, 0]))
        sender.take("")
        sender.take("bpipe,10;ba,1;bhome,5;ba,3;bc,4;")
        self.assertEqual(told(sender), ([30, 30, 30, 30, 40, 50], [3, 0, 0, 0]))

    def test_texts_cut_at_every_place(self):
        text = "bpipe,10;ba,6;bhome,6;bc,4;"
        whole = self.sender()
        whole.take(text)
        for at in range(len(text) + 1):
            for end in range(at, len(text) + 1):
                sender = self.sender()
                for part in (text[:at], text[at:end], text[end:]):
                    sender.take(part)
                self.assertEqual(told(sender), told(whole))
        sender = self.sender()
        for sign in text:
            sender.take(sign)
        self.assertEqual(told(sender), told(whole))

    def test_strings_that_are_not_taken(self):
        bad = ["ba,7;", "ba,1;ba,6;", "ba,6;ba,1;", "ba,2;ba,2;ba,2;ba,1;", "bb,1;", "bpipe,11;", "bz,1;",
               "ba,1;bzz,1;",
               "da,1,:x;", "ba,1;da,1,e:x;", "ba,0;", "ba,01;", "x", "ba,1;x", "ba,1;ba,1;\n", "ba,1\n", "bhome,7;",
               "ba,1;bhome,1;bpipe," + "9" * 39 + ";", "ba,1;d,"]
        for text in bad:
            for cut in range(len(text)):
                sender, other = self.sender(), self.sender()
                if futures(sender, [text[:cut]]) == ["BadFrame"]:
                    break
                sender.take(text[:cut])
                other.take(text[:cut])
                self.assertEqual(futures(sender, [text[cut:]]), ["BadFrame"])
                raised(self, BadFrame, sender.take, text[cut:])
                # What came ahead of it stays as it was.
                ends = ["", "ba,1;", "a,1;", ",1;", "1;", ";", "pipe,2;", "bpipe,2;"]
                self.assertEqual([told(sender), futures(sender, ends)], [told(other), futures(other, ends)])

    def test_what_is_no_string(self):
        sender = self.sender()
        for thing in things():
            if not isinstance(thing, str):
                raised(self, BadFrame, sender.take, thing)
        self.assertEqual(told(sender), told(self.sender()))

    def test_a_bad_beginning_is_bad_at_once(self):
        sender = self.sender()
        sender.take("b")
        raised(self, BadFrame, sender.take, "1")
        sender.take("a,2")
        self.assertEqual(sender.left_of("a"), 24)
        raised(self, BadFrame, sender.take, "0;")
        sender.take(";")
        self.assertEqual(sender.left_of("a"), 26)
        # The beginning of a frame with letters may come; the whole frame may not.
        sender.take("da,1,:x")
        raised(self, BadFrame, sender.take, ";")
        self.assertEqual(sender.left_of("a"), 26)

    def test_sending_goes_on_with_what_came_back(self):
        sender = Sender(plan().with_pool("a", credit=4))
        sender.write("a", "abcdefghij")
        self.assertEqual([sender.frame("a", 9), sender.frame("a", 9)], ["da,4,:abcd;", ""])
        sender.take("ba,3;")
        self.assertEqual([sender.frame("a", 2), sender.frame("a", 9), sender.frame("a", 9)],
                         ["da,2,:ef;", "da,1,:g;", ""])
        raised(self, BadFrame, sender.take, "ba,5;")
        sender.take("ba,4;")
        self.assertEqual(sender.frame("a", 9), "da,3,e:hij;")

    def test_copies_go_on_by_themselves(self):
        sender = self.sender()
        sender.take("ba,2;bpi")
        copy = sender.copied()
        self.assertEqual(told(copy), told(sender))
        copy.take("pe,3;")
        self.assertEqual([copy.left_of("pipe"), sender.left_of("pipe")], [43, 40])
        self.assertEqual(copy.frame("a", 1), "da,1,:a;")
        copy.write("a", "more")
        self.assertEqual([copy.unsent("a"), sender.unsent("a")], [6, 3])
        sender.take("pe,10;")
        self.assertEqual(sender.frame("a", 9), "da,3,e:aaa;")
        self.assertEqual([copy.frame("a", 9), copy.frame("a", 9)], ["da,2,e:aa;", "da,4,e:more;"])
        self.assertEqual([copy.left_of("a"), sender.left_of("a")], [19, 23])

    def test_copies_that_send_at_once(self):
        sender = self.sender()
        copy = sender.copied()
        copy.write("b", "x")
        copy.frame("a", 1)
        self.assertEqual(told(sender), told(self.sender()))
        copy = sender.copied()
        sender.frame("a", 1)
        self.assertEqual(told(copy), told(self.sender()))

    def test_queries_change_nothing(self):
        sender = self.sender()
        self.assertEqual(told(sender), told(sender))
        self.assertEqual(sender.frame("a", 9), self.sender().frame("a", 9))
