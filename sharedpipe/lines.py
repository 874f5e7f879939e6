"""Lines: streams at work."""

from sharedpipe.errors import Unknown
from sharedpipe.kinds import is_name


class Line:
    """A stream at work: what is unread, the message in hand, and what was counted; it never changes."""

    # What is unread stands in a tuple of rows (size, many, waits). A row is many messages of
    # one size, or, of a stream that is read in any parts, many letters, each of size 1. No two
    # neighbours could be one row.

    def __init__(self, whole, rows=(), hand=None, counts=(0, 0, 0)):
        self._whole = whole
        self._rows = rows
        self._hand = hand
        self._counts = counts

    def lying(self):
        """Return the list of what is unread, in order."""
        if self._whole:
            return list(self._rows)
        return [(many, waits) for _, many, waits in self._rows]

    def hand(self):
        """Return the tuple (size, sent, waits) of the message in hand, or None."""
        return self._hand

    def counts(self):
        """Return the tuple of the letters sent, the letters read, and the messages sent to their ends."""
        return self._counts

    def readable(self):
        """Return how many messages, or letters, can be read."""
        total = 0
        for _, many, waits in self._rows:
            if waits:
                return total
            total = total + many
        return total

    def begun(self, size, waits):
        """Return the Line behind the beginning of a message; its size may be None."""
        return Line(self._whole, self._rows, (size, 0, waits), self._counts)

    def grown(self, many):
        """Return the Line behind so many further letters of the message in hand."""
        size, sent, waits = self._hand
        rows = self._rows if self._whole else added(self._rows, (1, many, waits))
        return Line(self._whole, rows, (size, sent + many, waits), counted(self._counts, many, 0, 0))

    def ended(self):
        """Return the Line behind the end of the message in hand."""
        _, sent, waits = self._hand
        rows = added(self._rows, (sent, 1, waits)) if self._whole else self._rows
        return Line(self._whole, rows, None, counted(self._counts, 0, 0, 1))

    def filled_up(self, size, many, waits):
        """Return the Line behind many messages of size letters each, where none is in hand."""
        row = (size, many, waits) if self._whole else (1, size * many, waits)
        return Line(self._whole, added(self._rows, row), None, counted(self._counts, size * many, 0, many))

    def passed(self, size, many):
        """Return the Line behind many messages that were sent and read at once, where nothing is unread."""
        return Line(self._whole, self._rows, None, counted(self._counts, size * many, size * many, many))

    def first(self, many):
        """Return the list of tuples (size, many) of the first so many messages, or letters."""
        return [(size, part) for size, part, _ in cut(self._rows, many)[0]]

    def taken(self, many):
        """Return the Line behind the reading of the first so many messages, or letters."""
        first, rest = cut(self._rows, many)
        letters = sum([size * part for size, part, _ in first])
        return Line(self._whole, rest, self._hand, counted(self._counts, 0, letters, 0))

    def released(self):
        """Return the Line in which nothing waits any more."""
        hand = None if self._hand is None else (self._hand[0], self._hand[1], False)
        return Line(self._whole, freed(self._rows), hand, self._counts)


def opened_lines(plan):
    """Return the dict from the streams of a plan, ascending, to Lines on which nothing was sent."""
    return {stream: Line(plan.most(stream) is not None) for stream in plan.streams()}


def line_of(lines, stream):
    """Return the Line of a stream, any value; raise Unknown."""
    if not is_name(stream) or stream not in lines:
        raise Unknown(stream)
    return lines[stream]


def counted(counts, sent, read, ended):
    """Return counts to which such numbers are added."""
    return (counts[0] + sent, counts[1] + read, counts[2] + ended)


def added(rows, row):
    """Return rows with one more behind them."""
    if len(rows) > 0 and is_like(rows[-1], row):
        return rows[:-1] + (joined(rows[-1], row),)
    return rows + (row,)


def is_like(one, other):
    """Return whether two rows that are neighbours are one."""
    return one[0] == other[0] and one[2] == other[2]


def joined(one, other):
    """Return the row that two like rows are together."""
    return (one[0], one[1] + other[1], one[2])


def freed(rows):
    """Return rows as they are when nothing waits any more."""
    free = []
    for size, many, _ in rows:
        row = (size, many, False)
        if len(free) > 0 and is_like(free[-1], row):
            row = joined(free.pop(), row)
        free.append(row)
    return tuple(free)


def cut(rows, many):
    """Return the rows of the first so many things, and the rows of the rest."""
    at = 0
    while at < len(rows) and rows[at][1] <= many:
        many = many - rows[at][1]
        at = at + 1
    if many == 0:
        return (rows[:at], rows[at:])
    size, there, waits = rows[at]
    return (rows[:at] + ((size, many, waits),), ((size, there - many, waits),) + rows[at + 1:])
