"""Senders: the ends that write."""

from sharedpipe.errors import BadFrame, Unknown, Unready
from sharedpipe.frames import MOST_LETTERS, read_frames, show_frame


class Sender:
    """The end of a pipe that writes messages, and is told what credit is given back."""

    # _written has the messages of each stream that were not sent to their ends, _begun the
    # number of letters that were sent of the first of them, _out the letters that were sent
    # through each pool and not given back, and _rest the text that is no whole frame yet.

    def __init__(self, plan):
        self._plan = plan
        self._written = {stream: [] for stream in plan.streams()}
        self._begun = {stream: 0 for stream in plan.streams()}
        self._out = {name: 0 for name in plan.shared() + plan.streams()}
        self._rest = ""

    def write(self, stream, letters, *, waits=False):
        """Write a message of a stream, behind those that were written; raise Unknown or Unready."""
        most = self._plan.most(stream)
        if most is not None and len(letters) > most:
            raise Unready(stream)
        if waits and self._plan.guide(stream) is None:
            raise Unready(stream)
        self._written[stream].append((letters, waits))

    def frame(self, stream, many):
        """Send the next frame of a stream, of at most so many letters, and return its text; raise Unknown."""
        over = self._plan.over(stream)
        written = self._written[stream]
        if len(written) == 0:
            return ""
        letters, waits = written[0]
        begun = self._begun[stream]
        size = min([len(letters) - begun, many, MOST_LETTERS] + [self.left_of(name) for name in over])
        if size == 0:
            return ""
        for name in over:
            self._out[name] = self._out[name] + size
        self._begun[stream] = begun + size
        ends = begun + size == len(letters)
        if ends:
            written.pop(0)
            self._begun[stream] = 0
        return show_frame(("data", stream, letters[begun:begun + size], waits and begun == 0, ends))

    def take(self, text):
        """Take a string that came from the Reader; raise BadFrame."""
        if not isinstance(text, str):
            raise BadFrame()
        frames, rest = read_frames(self._rest + text)
        self._out = given_back(self._out, frames)
        self._rest = rest

    def left_of(self, name):
        """Return the credit that a pool has left; raise Unknown."""
        credit, _, _ = self._plan[name]
        return credit - self._out[name]

    def unsent(self, stream):
        """Return how many letters of a stream were written and not sent; raise Unknown."""
        if stream not in self._plan.streams():
            raise Unknown(stream)
        return sum([len(letters) for letters, _ in self._written[stream]]) - self._begun[stream]

    def copied(self):
        """Return a Sender that stands where this one does, and goes on by itself."""
        sender = Sender(self._plan)
        sender._written = {stream: list(rows) for stream, rows in self._written.items()}
        sender._begun = dict(self._begun)
        sender._out = dict(self._out)
        sender._rest = self._rest
        return sender


def given_back(out, frames):
    """Return the letters that are out through each pool behind frames; raise BadFrame if one cannot come."""
    behind = dict(out)
    for frame in frames:
        if frame[0] != "back" or frame[1] not in behind or frame[2] > behind[frame[1]]:
            raise BadFrame()
        behind[frame[1]] = behind[frame[1]] - frame[2]
    return behind
