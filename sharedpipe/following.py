"""What frames and readings make of standings."""

# A standing is told with a Layout, and at is the place of a stream in it.


def opening(layout):
    """Return the standing at the beginning."""
    lines = [() if most is None else ((), ()) for most in layout.mosts]
    return (tuple([0 for _ in layout.names]), tuple(lines))


def letters_of_line(most, line):
    """Return how many letters of a stream with this most have come and are unread."""
    if most is None:
        return sum([many for many, _ in line])
    messages, hand = line
    return sum([size for size, _ in messages]) + sum([sent for sent, _ in hands_of(hand)])


def hands_of(hand):
    """Return the list of the messages in hand: one or none."""
    return [hand] if len(hand) > 0 else []


def lefts_of(layout, standing):
    """Return the list of the credit that each pool has left; less than 0 if there is too much in it."""
    withheld, lines = standing
    letters = [letters_of_line(most, line) for most, line in zip(layout.mosts, lines)]
    lefts = []
    for pool, credit in enumerate(layout.allowed):
        under = [] if layout.early[pool] else layout.below[pool]
        lefts.append(credit - withheld[pool] - sum([letters[at] for at in under]))
    return lefts


def readable_at(layout, at, line):
    """Return how many letters, or messages, of a stream can be read."""
    rows = line if layout.mosts[at] is None else line[0]
    total = 0
    for many, waits in rows:
        if waits:
            return total
        total = total + (many if layout.mosts[at] is None else 1)
    return total


def following(layout, standing, many):
    """Return a list of standings to which frames and readings lead, of at most so many letters each.

    Those that are left out come of several frames or readings that are there, one after another.
    """
    lefts = lefts_of(layout, standing)
    found = []
    for at in range(len(layout.mosts)):
        room = min([lefts[pool] for pool in layout.above[at]])
        found = found + after_frames(layout, standing, at, min(room, many)) + after_readings(layout, standing, at, many)
    return found


def after_frames(layout, standing, at, many):
    """Return the list of the standings to which frames of a stream of at most so many letters lead."""
    withheld, lines = standing
    found = []
    for size in range(1, min(many, layout.sent_at_once[at]) + 1):
        behind = passed(layout, withheld, at, size, True)
        for line, ends in grown_lines(layout, at, lines[at], size):
            changed = with_line(lines, at, line)
            found.append((behind, released(layout, at, changed) if ends else changed))
    return found


def after_readings(layout, standing, at, many):
    """Return the list of the standings to which readings of a stream of at most so many letters lead."""
    withheld, lines = standing
    found = []
    for size, line in read_lines(layout, at, lines[at], many):
        found.append((passed(layout, withheld, at, size, False), with_line(lines, at, line)))
    return found


def grown_lines(layout, at, line, size):
    """Return the list of tuples (line behind a frame of so many letters, whether a message ends with it)."""
    ways = [False, True] if layout.guided[at] else [False]
    most = layout.mosts[at]
    if most is None:
        # Whether a message ends shows at what it releases alone.
        ends = [False, True] if len(layout.guiding[at]) > 0 else [False]
        return [(added(line, size, waits), end) for waits in ways for end in ends]
    messages, hand = line
    begun = [hand] if len(hand) > 0 else [(0, way) for way in ways]
    found = []
    for sent, waits in begun:
        if sent + size < most:
            found.append(((messages, (sent + size, waits)), False))
        if sent + size <= most:
            found.append(((messages + ((sent + size, waits),), ()), True))
    return found


def read_lines(layout, at, line, many):
    """Return the list of tuples (letters, line behind a reading of them) for at most so many letters."""
    ready = readable_at(layout, at, line)
    if ready == 0:
        return []
    if layout.mosts[at] is not None:
        messages, hand = line
        return [(messages[0][0], (messages[1:], hand))]
    found = []
    for size in range(1, min(ready, many, layout.read_at_once[at]) + 1):
        rest = line[1:] if size == ready else ((ready - size, False),) + line[1:]
        found.append((size, rest))
    return found


def added(line, size, waits):
    """Return what is unread of a stream that is read in any parts with so many letters more."""
    if len(line) > 0 and line[-1][1] == waits:
        return line[:-1] + ((line[-1][0] + size, waits),)
    return line + ((size, waits),)


def with_line(lines, at, line):
    """Return what is unread of all streams when that of one has become another."""
    return lines[:at] + (line,) + lines[at + 1:]


def released(layout, at, lines):
    """Return what is unread of all streams behind the end of a message of one."""
    for other in layout.guiding[at]:
        lines = with_line(lines, other, freed(layout.mosts[other], lines[other]))
    return lines


def freed(most, line):
    """Return what is unread of a stream with this most when nothing waits any more."""
    if most is None:
        total = letters_of_line(most, line)
        return ((total, False),) if total > 0 else ()
    messages, hand = line
    return (tuple([(size, False) for size, _ in messages]), (hand[0], False) if len(hand) > 0 else ())


def passed(layout, withheld, at, size, early):
    """Return what the pools withhold when letters of a stream have passed those of this moment together."""
    behind = list(withheld)
    for pool in layout.above[at]:
        if layout.early[pool] == early:
            rule = layout.giving[pool]
            behind[pool] = rule.rest(behind[pool] + size)
    return tuple(behind)
