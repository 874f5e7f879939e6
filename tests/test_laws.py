"""Promises over several modules: frames that are cut or exchanged, and other names."""

import random
import unittest

from given import other_names, renamed
from plain import does, some_plan, some_run, some_slow, some_step, standing
from sharedpipe.covers import cover, cover_sum, is_cover
from sharedpipe.errors import PipeError
from sharedpipe.fills import fill, filled, holds, is_fill
from sharedpipe.frames import read_frames, show_frame
from sharedpipe.fullness import stands_full, stopped
from sharedpipe.machine import Machine
from sharedpipe.reader import Reader
from sharedpipe.runs import is_run, letters, played, walk
from sharedpipe.sender import Sender


class Frames(unittest.TestCase):
    def in_hand(self, pick, moments):
        """Return a Machine with a message in hand, and the size of a frame of it that can be sent."""
        while True:
            plan = some_plan(pick, moments)
            machine = played(plan, some_run(pick, plan, 12))
            for stream in plan.streams():
                if machine.hand(stream) is not None:
                    size = machine.hand(stream)[0] - machine.hand(stream)[1]
                    for many in range(size, 1, -1):
                        if does(machine.copied(), ("send", stream, many, 1)):
                            return machine, stream, many

    def test_a_frame_cut_into_two(self):
        pick = random.Random(12)
        for moments in (("read",), ("come", "read"), ("come",)):
            for _ in range(60):
                machine, stream, size = self.in_hand(pick, moments)
                whole, parts = machine.copied(), machine.copied()
                whole.step(("send", stream, size, 1))
                first = pick.randint(1, size - 1)
                parts.step(("send", stream, first, 1))
                parts.step(("send", stream, size - first, 1))
                for other in machine.plan().streams():
                    self.assertEqual(whole.readable(other), parts.readable(other))
                    self.assertEqual(whole.lying(other), parts.lying(other))
                if moments == ("read",):
                    self.assertEqual(standing(whole), standing(parts))

    def test_frames_of_two_streams_in_the_other_order(self):
        pick = random.Random(13)
        found = 0
        while found < 60:
            plan = some_plan(pick, ("read",))
            machine = played(plan, some_run(pick, plan, 12))
            hands = [stream for stream in plan.streams() if machine.hand(stream) is not None]
            if len(hands) < 2:
                continue
            pair = pick.sample(hands, 2)
            frames = [("send", stream, pick.randint(1, machine.hand(stream)[0] - machine.hand(stream)[1]), 1)
                      for stream in pair]
            one, other = machine.copied(), machine.copied()
            done = [does(one, frame) for frame in frames]
            if not all(done):
                self.assertFalse(all([does(other, frame) for frame in reversed(frames)]))
                continue
            self.assertEqual([does(other, frame) for frame in reversed(frames)], [True, True])
            self.assertEqual(standing(one), standing(other))
            found += 1


class Names(unittest.TestCase):
    def test_runs(self):
        pick = random.Random(14)
        for _ in range(80):
            plan = some_plan(pick)
            names = other_names(pick, plan)
            other = renamed(plan, names)
            run = some_run(pick, plan, 25)
            run += [some_step(pick, plan)]
            like = [step[:1] + (names[step[1]],) + step[2:] for step in run]
            self.assertEqual(is_run(plan, run), is_run(other, like))
            self.assertEqual(letters(run), letters(like))
            machine, second = Machine(plan), Machine(other)
            for step, second_step in zip(run, like):
                errors = []
                for each, either in ((machine, step), (second, second_step)):
                    try:
                        each.step(either)
                        errors.append(None)
                    except PipeError as error:
                        told = getattr(error, "stream", getattr(error, "name", None))
                        errors.append((error.__class__, names.get(told, told) if each is machine else told))
                self.assertEqual(errors[0], errors[1])
                pools, streams = standing(machine)
                self.assertEqual(standing(second), ({names[name]: row for name, row in pools.items()},
                                                    {names[name]: row for name, row in streams.items()}))
            done = machine.steps()
            like = [step[:1] + (names[step[1]],) + step[2:] for step in done]
            moments = [list(moment.items()) for moment in walk(other, like)]
            self.assertEqual(moments, [[(names[name], left) for name, left in moment.items()]
                                       for moment in walk(plan, done)])
            slow = some_slow(pick, plan)
            self.assertEqual(stopped(second, [names[name] for name in slow]),
                             [names[name] for name in stopped(machine, slow)])
            for name in plan.shared():
                self.assertEqual(stands_full(machine, name, slow),
                                 stands_full(second, names[name], [names[n] for n in slow]))

    def test_fills(self):
        pick = random.Random(15)
        for _ in range(80):
            plan = some_plan(pick)
            names = other_names(pick, plan)
            other = renamed(plan, names)
            slow = some_slow(pick, plan)
            like = [names[name] for name in slow]
            for name in [name for name in plan.shared() if plan[name][2] == "read"]:
                can_hold = holds(plan, name, slow)
                self.assertEqual(list(holds(other, names[name], like).items()),
                                 [(names[stream], many) for stream, many in can_hold.items()])
                self.assertEqual(filled(plan, name, slow), filled(other, names[name], like))
                found = {names[stream]: many for stream, many in fill(plan, name, slow).items()}
                self.assertTrue(is_fill(other, names[name], like, found))
                self.assertEqual(sum(found.values()), filled(other, names[name], like))
                least = tuple([tuple([names[part] for part in parts]) for parts in cover(plan, name, slow)])
                self.assertTrue(is_cover(other, names[name], like, least))
                self.assertEqual(cover_sum(other, names[name], like, least), filled(plan, name, slow))

    def test_ends(self):
        pick = random.Random(16)
        for _ in range(40):
            plan = some_plan(pick)
            names = other_names(pick, plan)
            other = renamed(plan, names)
            one, two = (Sender(plan), Reader(plan)), (Sender(other), Reader(other))
            for _ in range(40):
                stream = pick.choice(plan.streams())
                size = pick.randint(1, plan.most(stream) or 9)
                waits = plan.guide(stream) is not None and pick.random() < 0.5
                one[0].write(stream, "x" * size, waits=waits)
                two[0].write(names[stream], "x" * size, waits=waits)
                many = pick.randint(1, 9)
                texts = one[0].frame(stream, many), two[0].frame(names[stream], many)
                self.assertEqual(self.renamed(texts[0], names), texts[1])
                one[1].take(texts[0])
                two[1].take(texts[1])
                ready = one[1].readable(stream)
                self.assertEqual(two[1].readable(names[stream]), ready)
                if ready:
                    self.assertEqual(one[1].read(stream, ready), two[1].read(names[stream], ready))
                backs = one[1].backs(), two[1].backs()
                self.assertEqual(self.renamed(backs[0], names), backs[1])
                one[0].take(backs[0])
                two[0].take(backs[1])
                for name in names:
                    self.assertEqual(one[0].left_of(name), two[0].left_of(names[name]))

    def renamed(self, text, names):
        """Return a text of frames with other names in it."""
        frames, _ = read_frames(text)
        return "".join([show_frame(frame[:1] + (names[frame[1]],) + frame[2:]) for frame in frames])
