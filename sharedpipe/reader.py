"""Readers: the ends that read."""

from sharedpipe.coming import after_data, check_data
from sharedpipe.errors import BadFrame, Unready
from sharedpipe.frames import read_frames, show_frame
from sharedpipe.lines import line_of, opened_lines
from sharedpipe.pools import account_of, after_readings, opened_pools


class Reader:
    """The end of a pipe that takes frames, and lets letters be read."""

    # The dicts of pools and of lines are never changed: others are put in their place. _texts
    # has the letters of each stream that came and are unread, in pieces, _out the letters that
    # came through each pool and were not told back, and _rest the text that is no whole frame yet.

    def __init__(self, plan):
        self._plan = plan
        self._pools = opened_pools(plan)
        self._lines = opened_lines(plan)
        self._texts = {stream: [] for stream in plan.streams()}
        self._out = {name: 0 for name in self._pools}
        self._rest = ""

    def take(self, text):
        """Take a string that came from the Sender; raise BadFrame or NoCredit."""
        if not isinstance(text, str):
            raise BadFrame()
        frames, rest = read_frames(self._rest + text)
        check_data(self._plan, self._lines, frames)
        self._pools, self._lines = after_data(self._plan, self._pools, self._lines, frames)
        for _, stream, letters, _, _ in frames:
            self._texts[stream].append(letters)
            for name in self._plan.over(stream):
                self._out[name] = self._out[name] + len(letters)
        self._rest = rest

    def read(self, stream, many):
        """Read so many letters together, or so many messages, and return the list of strings."""
        line = line_of(self._lines, stream)
        if many > line.readable():
            raise Unready(stream)
        amounts = line.first(many) if self._plan.most(stream) is not None else [(many, 1)]
        self._pools = after_readings(self._plan, self._pools, stream, amounts)
        lines = dict(self._lines)
        lines[stream] = line.taken(many)
        self._lines = lines
        sizes = [size for size, times in amounts for _ in range(times)]
        return [taken_out(self._texts[stream], size) for size in sizes]

    def backs(self):
        """Return the texts of frames for all that was given back since the last call."""
        texts = []
        for name, account in self._pools.items():
            out = account.credit - account.left
            if out < self._out[name]:
                texts.append(show_frame(("back", name, self._out[name] - out)))
                self._out[name] = out
        return "".join(texts)

    def left_of(self, name):
        """Return the credit that a pool has left."""
        return account_of(self._pools, name).left

    def unpassed_of(self, name):
        """Return how many letters came and have not passed a pool."""
        return account_of(self._pools, name).unpassed

    def withheld_of(self, name):
        """Return how much a pool withholds."""
        return account_of(self._pools, name).withheld

    def lying(self, stream):
        """Return the list of what is unread at a stream, in order."""
        return line_of(self._lines, stream).lying()

    def readable(self, stream):
        """Return how many letters, or messages, can be read at a stream."""
        return line_of(self._lines, stream).readable()

    def copied(self):
        """Return a Reader that stands where this one does, and goes on by itself."""
        reader = Reader(self._plan)
        reader._pools = self._pools
        reader._lines = self._lines
        reader._texts = {stream: list(pieces) for stream, pieces in self._texts.items()}
        reader._out = dict(self._out)
        reader._rest = self._rest
        return reader


def taken_out(pieces, many):
    """Take so many letters out of the first pieces of a list, and return them."""
    parts = []
    while many > 0:
        piece = pieces.pop(0)
        if len(piece) > many:
            pieces.insert(0, piece[many:])
        parts.append(piece[:many])
        many = many - len(parts[-1])
    return "".join(parts)
