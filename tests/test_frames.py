"""Frames and their texts."""

import random
import time
import unittest

from sharedpipe.errors import BadFrame
from sharedpipe.frames import read_frames, show_frame
from values import LONG, raised, things

SIGNS = "".join([chr(at) for at in range(32, 127) if at != 37])
FRAMES = [
    ("data", "a", "hell", False, False), ("data", "a", "o", False, True), ("data", "abcdefgh", "x", True, False),
    ("data", "z", SIGNS, True, True), ("data", "b", ";", False, True), ("data", "d", "da,1,:x;", True, True),
    ("data", "w", "w" * 200, True, True), ("data", "e", ":;,;:" * 40, False, False), ("data", "we", "we:", False, True),
    ("back", "a", 1), ("back", "pipe", 10), ("back", "abcdefgh", 10 ** 39 - 1), ("back", "b", LONG), ("back", "d", 200),
]
TEXTS = [
    "da,4,:hell;", "da,1,e:o;", "dabcdefgh,1,w:x;", "dz,94,we:" + SIGNS + ";", "db,1,e:;;", "dd,8,we:da,1,:x;;",
    "dw,200,we:" + "w" * 200 + ";", "de,200,:" + ":;,;:" * 40 + ";", "dwe,3,e:we:;", "ba,1;", "bpipe,10;",
    "babcdefgh,999999999999999999999999999999999999999;", "bb,100000000000000000000000000000000000007;", "bd,200;",
]


def is_frame(text):
    """Return whether a text is one whole frame, worked out from the words of the document."""
    if text[:1] == "b" and text[-1:] == ";" and text.count(",") == 1:
        name, number = text[1:-1].split(",")
        return is_plain_name(name) and is_plain_number(number, 39)
    if text[:1] != "d" or text[-1:] != ";" or text.count(",") < 2 or ":" not in text:
        return False
    name, number, rest = text[1:].split(",", 2)
    marks, letters = rest[:-1].split(":", 1) if ":" in rest[:-1] else ("?", "")
    if not is_plain_name(name) or not is_plain_number(number, 39) or marks not in ("", "w", "e", "we"):
        return False
    return int(number) <= 200 and len(letters) == int(number) and all(sign in SIGNS for sign in letters)


def is_plain_name(word):
    return 1 <= len(word) <= 8 and all(sign in "abcdefghijklmnopqrstuvwxyz" for sign in word)


def is_plain_number(word, most):
    return 1 <= len(word) <= most and all(sign in "0123456789" for sign in word) and word[0] != "0"


def is_beginning(text):
    """Return whether a text can become a frame by further signs."""
    ends = [";", "a,1;", ",1;", "1;", "a,1,:x;", ",1,:x;", "1,:x;", ",:x;", ":x;", "x;"]
    if any(is_frame(text + end) for end in ends):
        return True
    if text[:1] == "d" and ":" in text:
        head, letters = text.split(":", 1)
        number = head.split(",")[1] if head.count(",") == 2 else ""
        missing = int(number) - len(letters) if is_plain_number(number, 3) else -1
        return missing >= 0 and is_frame(text + "x" * missing + ";")
    # A number that is the beginning of others is a number itself; so is each beginning of marks.
    head = text.split(",")
    if text[:1] == "d" and len(head) == 3:
        return head[2] in ("", "w", "e", "we") and is_frame(",".join(head[:2]) + ",:" + "x" * int(head[1] or 0) + ";") \
            if is_plain_number(head[1], 3) else False
    return text[:1] == "d" and len(head) == 2 and is_plain_name(head[0][1:]) and \
        (head[1] == "" or is_plain_number(head[1], 3) and int(head[1]) <= 200)


def by_hand(text):
    """Return what read_frames returns, or None where it raises BadFrame, by trying each end of each frame."""
    frames, at = [], 0
    while at < len(text):
        ends = [end for end in range(at + 1, len(text) + 1) if text[end - 1] == ";" and is_frame(text[at:end])]
        if not ends:
            return (frames, text[at:]) if is_beginning(text[at:]) else None
        piece = text[at:ends[0]]
        if piece[0] == "b":
            name, number = piece[1:-1].split(",")
            frames.append(("back", name, int(number)))
        else:
            name, _, rest = piece[1:].split(",", 2)
            marks, letters = rest[:-1].split(":", 1)
            frames.append(("data", name, letters, "w" in marks, "e" in marks))
        at = ends[0]
    return (frames, "")


class Frames(unittest.TestCase):
    def reads(self, text):
        """Check read_frames of a text against the words of the document."""
        due = by_hand(text)
        if due is None:
            raised(self, BadFrame, read_frames, text)
        else:
            self.assertEqual(read_frames(text), due)
        return due

    def test_there_and_back(self):
        for frame, text in zip(FRAMES, TEXTS):
            self.assertEqual(show_frame(frame), text)
            self.assertEqual(read_frames(text), ([frame], ""))
            self.assertEqual(by_hand(text), ([frame], ""))
        self.assertEqual(read_frames("".join(TEXTS)), (FRAMES, ""))
        self.assertEqual(read_frames("".join(reversed(TEXTS))), (FRAMES[::-1], ""))
        self.assertEqual(read_frames(""), ([], ""))

    def test_truths_are_truths(self):
        for text in ("da,1,:x;", "da,1,w:x;", "da,1,e:x;", "da,1,we:x;"):
            frames, _ = read_frames(text)
            self.assertEqual([part.__class__ for part in frames[0]], [str, str, str, bool, bool])
        self.assertEqual([part.__class__ for part in read_frames("ba,7;")[0][0]], [str, str, int])

    def test_what_was_returned_belongs_to_the_caller(self):
        read_frames("ba,1;")[0].append(None)
        self.assertEqual(read_frames("ba,1;"), ([("back", "a", 1)], ""))

    def test_texts_cut_at_every_place(self):
        whole = "".join(TEXTS)
        ends = [len("".join(TEXTS[:many])) for many in range(len(TEXTS) + 1)]
        for at in range(len(whole) + 1):
            many = max([many for many, end in enumerate(ends) if end <= at])
            self.assertEqual(read_frames(whole[:at]), (FRAMES[:many], whole[ends[many]:at]))

    def test_a_sign_in_or_out_or_exchanged(self):
        whole = "da,12,we:ab:;,1d,ba,7;bpipe,10;dxy,1,:;;ba,2"
        refused = 0
        for at in range(len(whole) + 1):
            refused += self.reads(whole[:at] + whole[at + 1:]) is None
            for sign in "da,1:;weba0\n" + chr(37) + "~ Z\u00e9\u0661":
                refused += self.reads(whole[:at] + sign + whole[at:]) is None
                refused += self.reads(whole[:at] + sign + whole[at + 1:]) is None
        self.assertGreater(refused, 500)

    def test_texts_by_chance(self):
        pick = random.Random(50)
        kept = 0
        for _ in range(20000):
            text = "".join([pick.choice("ddbba,,112:;;wex") for _ in range(pick.randint(0, 12))])
            text = pick.choice(["", "d", "b", "da,", "ba,", "da,1,", "da,2,:", "ba,1;"]) + text
            kept += self.reads(text) is not None
        self.assertGreater(kept, 2000)

    def test_beginnings_of_each_part(self):
        for text in ("d", "b", "da", "dabcdefgh", "babcdefgh", "da,", "ba,", "da,2", "da,200", "da,20", "da,1,",
                     "da,1,w",
                     "da,1,e", "da,1,we", "da,1,:", "da,2,:x", "da,2,:xy", "da,2,we:;;", "ba,1", "ba," + "9" * 39):
            self.assertEqual(read_frames(text), ([], text))
            self.assertEqual(read_frames("ba,1;" + text), ([("back", "a", 1)], text))

    def test_texts_that_are_none(self):
        bad = ["a", "D", "da,0", "da,01", "da,201", "da,999", "da,1000", "da,20 ", "d,", "d1", "dA", "b,", "b;",
               "dabcdefghi",
               "babcdefghi", "da;", "da:", "ba:", "da,,", "da,:", "ba,;", "ba,,", "da,1;", "da,1:", "ba,1,", "ba,1:",
               "ba,0",
               "ba,00", "ba,01", "ba,1" + "0" * 39, "da,1,ew", "da,1,ww", "da,1,ee", "da,1,x", "da,1,;", "da,1, ",
               "da,1,we;",
               "da,1,:xy", "da,1,:x:", "da,1,:\n", "da,2,:x\n", "da,2,:" + chr(37), "da,1,:\u00e9", "da,1,:\t",
               "da,1,:\x7f",
               " ", "\n", ";", ",", "da\n", "da,1\n", "da,\u0661", "d\u00e9", "ba,1;\n", "ba,-1", "ba,+1", "ba, 1",
               "ba,1_0",
               "da,1,:;:", "da,2,:x;d", "w", "e", "ba,1;;"]
        for text in bad:
            raised(self, BadFrame, read_frames, text)
            raised(self, BadFrame, read_frames, "ba,1;da,1,:x;" + text)
            raised(self, BadFrame, read_frames, text + ";")
            self.assertIsNone(by_hand(text), text)

    def test_things_that_are_no_strings(self):
        for thing in things() + [5, LONG]:
            if not isinstance(thing, str):
                raised(self, BadFrame, read_frames, thing)

    def test_numbers_of_all_lengths(self):
        for digits in range(1, 40):
            for many in (10 ** (digits - 1), 10 ** digits - 1):
                text = show_frame(("back", "pipe", many))
                self.assertEqual(read_frames(text), ([("back", "pipe", many)], ""))
        for many in range(1, 201):
            frame = ("data", "a", SIGNS[many % 94] * many, False, many % 2 == 1)
            self.assertEqual(read_frames(show_frame(frame) + "d"), ([frame], "d"))

    def test_the_cost_grows_with_the_length(self):
        text = "".join([show_frame(("data", "a", "x" * 200, True, True)) for _ in range(1500)])
        started = time.perf_counter()
        self.assertEqual(len(read_frames(text)[0]), 1500)
        once = time.perf_counter() - started
        self.assertEqual(len(read_frames(text * 8)[0]), 12000)
        self.assertLess(time.perf_counter() - started, 60 * once + 1)
