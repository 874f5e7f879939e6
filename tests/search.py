"""A plain search through all moments of small plans, frame by frame and reading by reading, as the document tells."""

import heapq

from plain import some_plan


class TooLarge(Exception):
    """There are more moments than the search may look at."""


class Search:
    """All standings to which runs of a plan lead, each with the fewest letters that must be sent to be there.

    What barred(moment, word, waits, ends) holds of is left out: frames, what they release, and readings.
    """

    def __init__(self, plan, most=3000, barred=lambda moment, word, waits, ends: False):
        self.plan = plan
        self.barred = barred
        self.names = sorted(plan.shared() + plan.streams())
        self.streams = plan.streams()
        start = (tuple([0] * len(self.names)), tuple([() if plan.most(s) is None else ((), ()) for s in self.streams]))
        self.letters = {start: 0}
        queue, done = [(0, start)], set()
        while queue:
            sent, moment = heapq.heappop(queue)
            if moment in done:
                continue
            done.add(moment)
            for size, behind in self.moves(moment):
                if sent + size < self.letters.get(behind, sent + size + 1):
                    self.letters[behind] = sent + size
                    heapq.heappush(queue, (sent + size, behind))
                    if len(self.letters) > most:
                        raise TooLarge()

    def closure(self, starts, most=3000):
        """Return the set of these moments and all to which they lead, whether a run leads to them or not."""
        found, waiting = set(starts), list(starts)
        while waiting:
            for _, behind in self.moves(waiting.pop()):
                if behind not in found:
                    found.add(behind)
                    waiting.append(behind)
                    if len(found) > most:
                        raise TooLarge()
        return found

    def things(self, moment, stream):
        """Return the unread things of a stream in order, each (size, waits), without a message in hand."""
        line = moment[1][self.streams.index(stream)]
        if self.plan.most(stream) is not None:
            return list(line[0])
        return [(1, waits) for many, waits in line for _ in range(many)]

    def lying(self, moment, stream):
        """Return how many letters of a stream are unread, those in hand too."""
        total = sum([size for size, _ in self.things(moment, stream)])
        line = moment[1][self.streams.index(stream)]
        if self.plan.most(stream) is not None and line[1]:
            total += line[1][0]
        return total

    def readable(self, moment, stream):
        """Return how many things are readable."""
        return ([waits for _, waits in self.things(moment, stream)] + [True]).index(True)

    def left(self, moment, name):
        """Return the credit that a pool has left."""
        credit, _, when = self.plan[name]
        under = [] if when == "come" else self.plan.under(name)
        return credit - moment[0][self.names.index(name)] - sum([self.lying(moment, stream) for stream in under])

    def moves(self, moment):
        """Return the list of tuples (letters sent, moment behind) for all frames and readings."""
        found = []
        for stream in self.streams:
            room = min([self.left(moment, name) for name in self.plan.over(stream)])
            for size in range(1, room + 1):
                found += [(size, behind) for behind in self.frames(moment, stream, size)]
            found += [(0, behind) for behind in self.readings(moment, stream)]
        return found

    def passed(self, moment, stream, amount, when):
        """Return what all pools withhold behind an amount that passed the pools over a stream with this moment."""
        withheld = list(moment[0])
        for name in self.plan.over(stream):
            _, rule, then = self.plan[name]
            if then == when:
                at = self.names.index(name)
                withheld[at] = rule.rest(withheld[at] + amount)
        return tuple(withheld)

    def frames(self, moment, stream, size):
        """Return the list of the moments behind a frame of so many letters, in all ways."""
        withheld = self.passed(moment, stream, size, "come")
        most = self.plan.most(stream)
        hand = moment[1][self.streams.index(stream)][1] if most is not None else ()
        found = []
        for waits in [False, True] if self.plan.guide(stream) else [False]:
            if hand and hand[1] != waits:
                continue
            sent = size + (hand[0] if hand else 0)
            for ends in (False, True):
                if self.barred(moment, "frame", waits, ends):
                    continue
                if most is None:
                    line = self.rows(self.things(moment, stream) + [(1, waits)] * size)
                elif sent > most or (sent == most and not ends):
                    continue
                else:
                    messages = moment[1][self.streams.index(stream)][0]
                    line = (messages + ((sent, waits),), ()) if ends else (messages, (sent, waits))
                releases = ends and not self.barred(moment, "release", waits, ends)
                found.append((withheld, self.with_line(moment, stream, line, releases)))
        return found

    def readings(self, moment, stream):
        """Return the list of the moments behind a reading, in all ways."""
        things, found = self.things(moment, stream), []
        whole = self.plan.most(stream) is not None
        for many in range(1, self.readable(moment, stream) + 1):
            if whole and many > 1:
                break
            if self.barred(moment, "reading", False, False):
                break
            amount = sum([size for size, _ in things[:many]])
            rest = things[many:]
            line = (tuple(rest), moment[1][self.streams.index(stream)][1]) if whole else self.rows(rest)
            found.append((self.passed(moment, stream, amount, "read"), self.with_line(moment, stream, line, False)))
        return found

    def rows(self, things):
        """Return letters, each (1, waits), as a tuple of (many, waits)."""
        rows = []
        for _, waits in things:
            if rows and rows[-1][1] == waits:
                rows[-1] = (rows[-1][0] + 1, waits)
            else:
                rows.append((1, waits))
        return tuple(rows)

    def with_line(self, moment, stream, line, ends):
        """Return what is unread when a stream has become another, and what is released if a message ended."""
        lines = list(moment[1])
        lines[self.streams.index(stream)] = line
        for at, other in enumerate(self.streams):
            if ends and self.plan.guide(other) == stream:
                if self.plan.most(other) is None:
                    lines[at] = self.rows([(1, False) for many, _ in lines[at] for _ in range(many)])
                else:
                    messages, hand = lines[at]
                    lines[at] = (tuple([(size, False) for size, _ in messages]), (hand[0], False) if hand else ())
        return tuple(lines)

    def is_full(self, moment, name, slow):
        """Return whether a shared pool stands full."""
        if self.left(moment, name) > 0:
            return False
        return not any([self.readable(moment, stream) for stream in self.plan.under(name) if stream not in slow])

    def fewest(self, slow):
        """Return the dict from the streams that can be stopped to the fewest letters with which they are."""
        found = {}
        for moment, letters in self.letters.items():
            for name in self.plan.shared():
                if self.is_full(moment, name, slow):
                    for stream in self.plan.under(name):
                        if stream not in slow:
                            found[stream] = min(letters, found.get(stream, letters))
        return found


def slow_sets_of(plan):
    """Return all slow sets of a plan, ascending tuples."""
    found = [()]
    for stream in plan.streams():
        if stream not in plan.guides():
            found += [slow + (stream,) for slow in found]
    return [slow for slow in found if len(slow) < len(plan.streams())]


def small_searches(pick, many, most=1500, streams=(1, 2, 2, 3)):
    """Yield so many Searches of plans chosen by chance that have few enough moments."""
    while many:
        try:
            search = Search(some_plan(pick, streams=pick.choice(streams), small=True), most)
        except TooLarge:
            continue
        many -= 1
        yield search
