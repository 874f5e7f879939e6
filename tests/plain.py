"""Slow but plain ways to run a plan, letter by letter, and plans and steps that are chosen by chance."""

from sharedpipe.errors import PipeError
from sharedpipe.machine import Machine
from sharedpipe.plans import Plan
from sharedpipe.rules import at_least
from values import rule_of


class Message:
    """A message, and how many of its letters were sent and read."""

    def __init__(self, size, waits, sent=0):
        self.size, self.waits, self.sent, self.read = size, waits, sent, 0


class Plain:
    """A run of a plan as the document tells it, one letter, frame and message after another."""

    def __init__(self, plan):
        self.plan = plan
        self.messages = {stream: [] for stream in plan.streams()}
        names = plan.shared() + plan.streams()
        self.unpassed = {name: 0 for name in names}
        self.withheld = {name: 0 for name in names}

    def left(self, name):
        return self.plan[name][0] - self.unpassed[name] - self.withheld[name]

    def hand(self, stream):
        for message in self.messages[stream]:
            if message.sent < message.size:
                return message
        return None

    def things(self, stream):
        """Return the unread things of a stream, each (size, waits): letters, or messages that were sent."""
        found = []
        for message in self.messages[stream]:
            if self.plan.most(stream) is None:
                found += [(1, message.waits)] * (message.sent - message.read)
            elif message.sent == message.size and message.read == 0:
                found.append((message.size, message.waits))
        return found

    def readable(self, stream):
        waiting = [waits for _, waits in self.things(stream)] + [True]
        return waiting.index(True)

    def lying(self, stream):
        rows = []
        for size, waits in self.things(stream):
            if rows and rows[-1][0] == size and rows[-1][2] == waits:
                rows[-1][1] += 1
            else:
                rows.append([size, 1, waits])
        return [tuple(row[1:] if self.plan.most(stream) is None else row) for row in rows]

    def counts(self, stream):
        messages = self.messages[stream]
        ended = [message for message in messages if message.sent == message.size]
        return (sum(message.sent for message in messages), sum(message.read for message in messages), len(ended))

    def passes(self, name, amount):
        rule = self.plan[name][1]
        self.unpassed[name] -= amount
        self.withheld[name] = rule.rest(self.withheld[name] + amount)

    def begin(self, stream, size, waits):
        self.messages[stream].append(Message(size, waits))

    def frame(self, stream, size, names):
        """Send one frame; these are the pools that are looked at. Return whether they have the credit."""
        if any(self.left(name) < size for name in names):
            return False
        message = self.hand(stream)
        message.sent += size
        for name in names:
            self.unpassed[name] += size
            if self.plan[name][2] == "come":
                self.passes(name, size)
        if message.sent == message.size:
            for other in self.plan.streams():
                if self.plan.guide(other) == stream:
                    for waiting in self.messages[other]:
                        waiting.waits = False
        return True

    def reading(self, stream, size, names):
        """Read so many letters together."""
        for name in names:
            if self.plan[name][2] == "read":
                self.passes(name, size)
        while size:
            message = [message for message in self.messages[stream] if message.read < message.sent][0]
            part = min(size, message.sent - message.read)
            message.read += part
            size -= part

    def do(self, step, names):
        """Do a step that is ready, with these pools, and return whether they had the credit."""
        word, stream = step[:2]
        if word == "begin":
            self.begin(stream, *step[2:])
        elif word == "fetch":
            for _ in range(step[2]):
                self.reading(stream, self.things(stream)[0][0], names)
        else:
            for _ in range(step[3]):
                if word in ("put", "pass"):
                    self.begin(stream, step[2], word == "put" and step[4])
                if word != "read" and not self.frame(stream, step[2], names):
                    return False
                if word in ("read", "pass"):
                    self.reading(stream, step[2], names)
        return True

    def copied(self):
        other = Plain(self.plan)
        for stream, messages in self.messages.items():
            for message in messages:
                other.messages[stream].append(Message(message.size, message.waits, message.sent))
                other.messages[stream][-1].read = message.read
        other.unpassed, other.withheld = dict(self.unpassed), dict(self.withheld)
        return other

    def ready(self, step):
        """Return whether the stream of a step is ready for it, credit aside."""
        word, stream = step[:2]
        hand, most = self.hand(stream), self.plan.most(stream)
        if word == "send":
            return hand is not None and hand.size - hand.sent >= step[2] * step[3]
        if word == "read":
            return self.readable(stream) >= step[2] * step[3]
        if word == "fetch":
            return self.readable(stream) >= step[2]
        if hand is not None or most is not None and step[2] > most:
            return False
        if word == "pass":
            return self.things(stream) == []
        return not step[-1] or self.plan.guide(stream) is not None

    def lacking(self, step):
        """Return the first pool that by itself lacks credit for a step, or None."""
        for name in self.plan.over(step[1]):
            if not self.copied().do(step, [name]):
                return name
        return None

    def standing(self):
        """Return all that can be asked of where the run stands."""
        pools = {name: (self.left(name), self.unpassed[name], self.withheld[name]) for name in self.unpassed}
        streams = {}
        for stream in self.messages:
            hand = self.hand(stream)
            hand = hand and (hand.size, hand.sent, hand.waits)
            streams[stream] = (self.lying(stream), hand, self.readable(stream), self.counts(stream))
        return (pools, streams)


def standing(machine):
    """Return all that can be asked of where a Machine stands, as Plain tells it."""
    plan = machine.plan()
    pools = {name: (machine.left_of(name), machine.unpassed_of(name), machine.withheld_of(name))
             for name in plan.shared() + plan.streams()}
    streams = {stream: (machine.lying(stream), machine.hand(stream), machine.readable(stream), machine.counts(stream))
               for stream in plan.streams()}
    return (pools, streams)


def does(machine, step):
    """Let a Machine do a step, and return whether it could."""
    try:
        machine.step(step)
    except PipeError:
        return False
    return True


def some_rule(pick):
    """Return a Rule with a small threshold."""
    return at_least(1) if pick.random() < 0.4 else rule_of(pick, pick.randint(1, 3), 3)


def some_credit(pick, rule, moment, more):
    """Return a credit of a shared pool, one below the threshold where that may be."""
    if moment == "read" and pick.random() < 0.3:
        return pick.randint(1, rule.threshold)
    return rule.threshold + pick.randint(0, more)


def some_groups(pick, names, moments, more=9):
    """Return a dict of groups, some of them in others."""
    groups = {}
    for name in names:
        rule, moment = some_rule(pick), pick.choice(moments)
        around = pick.choice([None] + list(groups))
        groups[name] = (some_credit(pick, rule, moment, more), rule, moment, around)
    return groups


def some_plan(pick, moments=("come", "read"), streams=None, small=False):
    """Return a Plan chosen by pick, a random.Random; one with small credits, if it is to be small."""
    houses = some_groups(pick, ["h" + sign for sign in "abc"[:pick.randint(0, 3)]], moments, 2 if small else 9)
    kinds = some_groups(pick, ["k" + sign for sign in "abc"[:pick.randint(0, 3)]], moments, 2 if small else 9)
    rows = {}
    for name in "abcdef"[:streams or pick.randint(1, 6)]:
        rule = some_rule(pick)
        most = pick.choice([None, None, pick.randint(1, 2 if small else 4)])
        house, kind = pick.choice([None] + list(houses)), pick.choice([None] + list(kinds))
        guides = [other for other in rows if rows[other][5] is None]
        guide = pick.choice([None] + guides)
        if guide is not None:
            house, kind = rows[guide][3:5]
        credit = rule.threshold + (most or 1) - 1 + pick.randint(0, 1 if small else 6)
        rows[name] = (credit, rule, most, house, kind, guide)
    rule, moment = some_rule(pick), pick.choice(moments)
    return Plan((some_credit(pick, rule, moment, 3 if small else 15), rule, moment), houses, kinds, rows)


def some_run(pick, plan, many):
    """Return the list of those of so many steps chosen by chance that can be done one after another."""
    machine = Machine(plan)
    for _ in range(many):
        does(machine, some_step(pick, plan, machine))
    return machine.steps()


def some_slow(pick, plan):
    """Return slow streams of a plan, in any order."""
    found = [stream for stream in plan.streams() if stream not in plan.guides() and pick.random() < 0.5]
    pick.shuffle(found)
    return found[:len(plan.streams()) - 1]


def some_step(pick, plan, machine=None):
    """Return a step of a plan; if a Machine is given, one for which its stream is often ready."""
    stream = pick.choice(plan.streams())
    words = ["begin", "put", "pass", "fetch" if plan.most(stream) else "read"]
    if machine is not None and machine.hand(stream) is not None:
        words = ["send"] * 3 + words[3:]
    word = pick.choice(words + ["send"])
    size, many = pick.choice([1, 1, 2, 2, 3, 5]), pick.choice([1, 1, 1, 2, 3])
    waits = plan.guide(stream) is not None and pick.random() < 0.7
    forms = {"begin": (size, waits), "put": (size, many, waits), "fetch": (many,)}
    return (word, stream) + forms.get(word, (size, many))
