"""Pairs of a Sender and a Reader, whose texts come late and cut anywhere."""

import random
import string
import unittest

from plain import Plain, some_plan, standing
from sharedpipe.errors import NoCredit
from sharedpipe.frames import read_frames
from sharedpipe.machine import Machine
from sharedpipe.reader import Reader
from sharedpipe.runs import is_run
from sharedpipe.sender import Sender


class Pair:
    """Two ends, the texts between them, and a Machine that does what is done at the Reader."""

    def __init__(self, pick, plan):
        self.pick, self.plan = pick, plan
        self.sender, self.reader, self.machine = Sender(plan), Reader(plan), Machine(plan)
        self.there, self.back = "", ""
        self.frames = []
        self.come = 0
        self.written = {stream: [] for stream in plan.streams()}
        self.begun = {stream: 0 for stream in plan.streams()}
        self.read = {stream: [] for stream in plan.streams()}

    def write(self):
        stream = self.pick.choice(self.plan.streams())
        size = self.pick.randint(1, self.plan.most(stream) or 9)
        letters = "".join([self.pick.choice(string.ascii_letters + ";:, d") for _ in range(size)])
        waits = self.plan.guide(stream) is not None and self.pick.random() < 0.5
        self.sender.write(stream, letters, waits=waits)
        self.written[stream].append((letters, waits))

    def send(self):
        text = self.sender.frame(self.pick.choice(self.plan.streams()), self.pick.choice([1, 2, 3, 9, 500]))
        if text:
            self.frames.append(read_frames(text)[0][0])
            self.there += text

    def deliver(self, many=None):
        """Let some signs come at the Reader."""
        many = self.pick.randint(0, len(self.there)) if many is None else many
        self.reader.take(self.there[:many])
        self.there = self.there[many:]
        text = len(self.there)
        while sum([len(shown) for shown in self.texts(self.come)]) > text:
            self.mirror(self.frames[self.come])
            self.come += 1

    def texts(self, start):
        """Return the texts of the frames from a number on."""
        found = []
        for _, stream, letters, waits, ends in self.frames[start:]:
            marks = "w" * waits + "e" * ends
            found.append(f"d{stream},{len(letters)},{marks}:{letters};")
        if found and start == self.come:
            # The last sign of a frame decides whether it has come.
            found[0] = found[0][-1]
        return found

    def mirror(self, frame):
        """Let the Machine do what a frame does."""
        _, stream, letters, _, ends = frame
        if self.machine.hand(stream) is None:
            told, waits = self.written[stream][self.begun[stream]]
            self.machine.step(("begin", stream, len(told), waits))
            self.begun[stream] += 1
        self.machine.step(("send", stream, len(letters), 1))
        assert ends == (self.machine.hand(stream) is None)

    def reading(self):
        stream = self.pick.choice(self.plan.streams())
        if self.reader.readable(stream):
            many = self.pick.randint(1, self.reader.readable(stream))
            self.read[stream] += self.reader.read(stream, many)
            self.machine.step(("read", stream, many, 1) if self.plan.most(stream) is None else ("fetch", stream, many))

    def give(self, many=None):
        """Let credit be told back, and some of what was told come at the Sender."""
        if self.pick.random() < 0.5 or many is not None:
            self.back += self.reader.backs()
        many = self.pick.randint(0, len(self.back)) if many is None else len(self.back)
        self.sender.take(self.back[:many])
        self.back = self.back[many:]

    def settle(self):
        """Let all come that is under way."""
        self.deliver(len(self.there))
        self.give(len(self.back))

    def pools(self, end):
        names = self.plan.shared() + self.plan.streams()
        return {name: (end.left_of(name), end.unpassed_of(name), end.withheld_of(name)) for name in names}

    def under_way(self, name):
        under = self.plan.under(name)
        return sum([len(letters) for _, stream, letters, _, _ in self.frames[self.come:] if stream in under])


class Pairs(unittest.TestCase):
    def check(self, pair):
        """Check what must hold whatever is late."""
        plan = pair.plan
        self.assertEqual(pair.pools(pair.reader), pair.pools(pair.machine))
        for stream in plan.streams():
            self.assertEqual(pair.reader.lying(stream), pair.machine.lying(stream))
            self.assertEqual(pair.reader.readable(stream), pair.machine.readable(stream))
            written = [letters for letters, _ in pair.written[stream]]
            if plan.most(stream) is None:
                self.assertTrue("".join(written).startswith("".join(pair.read[stream])))
            else:
                self.assertEqual(written[:len(pair.read[stream])], pair.read[stream])
        for name, (_, unpassed, withheld) in pair.pools(pair.reader).items():
            credit, left = plan[name][0], pair.sender.left_of(name)
            self.assertGreaterEqual(left, 0)
            self.assertLessEqual(left + pair.under_way(name) + unpassed + withheld, credit)

    def test_whatever_is_late(self):
        pick = random.Random(13)
        letters = settled = 0
        for _ in range(120):
            pair = Pair(pick, some_plan(pick))
            for _ in range(80):
                pick.choice([pair.write, pair.send, pair.send, pair.deliver, pair.reading, pair.give])()
                self.check(pair)
                if pick.random() < 0.05:
                    pair.settle()
                    self.check(pair)
                    # Nothing is under way: both stand as the Machine does.
                    for name in pair.plan.shared() + pair.plan.streams():
                        self.assertEqual(pair.sender.left_of(name), pair.machine.left_of(name))
                    self.assertTrue(is_run(pair.plan, pair.machine.steps()))
                    for stream in pair.plan.streams():
                        written = sum([len(letters) for letters, _ in pair.written[stream]])
                        self.assertEqual(pair.sender.unsent(stream) + pair.machine.counts(stream)[0], written)
                    settled += 1
            letters += pair.machine.sent()
        self.assertGreater(letters, 1000)
        self.assertGreater(settled, 200)

    def test_copies_of_both_amid_a_text(self):
        pick = random.Random(14)
        for _ in range(30):
            plan = some_plan(pick)
            pair = Pair(pick, plan)
            for _ in range(40):
                pick.choice([pair.write, pair.send, pair.deliver, pair.reading, pair.give])()
            sender, reader = pair.sender.copied(), pair.reader.copied()
            for end in (reader, pair.reader):
                end.take(pair.there)
            texts = [end.backs() for end in (reader, pair.reader)]
            for end, text in zip((sender, pair.sender), texts):
                end.take(pair.back + text)
            for stream in plan.streams():
                self.assertEqual(sender.frame(stream, 9), pair.sender.frame(stream, 9))
            self.assertEqual(pair.pools(reader), pair.pools(pair.reader))
            self.assertEqual(texts[0], texts[1])

    def test_a_sender_is_never_refused(self):
        # The Sender knows less of what is left than the Reader: its frames always find credit.
        pick = random.Random(15)
        for _ in range(60):
            pair = Pair(pick, some_plan(pick, moments=("come",)))
            for _ in range(80):
                try:
                    pick.choice([pair.write, pair.send, pair.send, pair.deliver, pair.reading, pair.give])()
                except NoCredit:
                    self.fail("a frame of the Sender found no credit")


class Plainly(unittest.TestCase):
    def test_the_machine_beside_the_reader_is_right(self):
        pick = random.Random(16)
        for _ in range(20):
            pair = Pair(pick, some_plan(pick))
            for _ in range(60):
                pick.choice([pair.write, pair.send, pair.deliver, pair.reading, pair.give])()
            plain = Plain(pair.plan)
            for step in pair.machine.steps():
                self.assertTrue(plain.ready(step))
                plain.do(step, pair.plan.over(step[1]))
            self.assertEqual(plain.standing(), standing(pair.machine))
