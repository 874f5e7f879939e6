"""What frames that come do to pools and to streams."""

from sharedpipe.errors import BadFrame
from sharedpipe.moves import lines_behind
from sharedpipe.pools import after_frames


def check_data(plan, lines, frames):
    """Raise BadFrame if one of these frames, one after another, cannot come."""
    # So many letters of the message in hand of a stream have come; of a stream without one, None.
    here = {stream: None if line.hand() is None else line.hand()[1] for stream, line in lines.items()}
    for frame in frames:
        if frame[0] != "data" or not can_come(plan, here, frame):
            raise BadFrame()
        _, stream, letters, _, ends = frame
        here[stream] = None if ends else (here[stream] or 0) + len(letters)


def can_come(plan, here, frame):
    """Return whether a frame with letters can come, credit aside."""
    _, stream, letters, waits, _ = frame
    if stream not in here:
        return False
    if waits and (here[stream] is not None or plan.guide(stream) is None):
        return False
    most = plan.most(stream)
    return most is None or (here[stream] or 0) + len(letters) <= most


def after_data(plan, pools, lines, frames):
    """Return the pools and the lines behind frames that can come; raise NoCredit."""
    for _, stream, letters, waits, ends in frames:
        pools = after_frames(plan, pools, stream, len(letters), 1)
        line = lines[stream] if lines[stream].hand() is not None else lines[stream].begun(None, waits)
        line = line.grown(len(letters))
        lines = lines_behind(plan, lines, stream, line.ended() if ends else line)
    return (pools, lines)
