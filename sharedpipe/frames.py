"""Frames as texts."""

from sharedpipe.errors import BadFrame
from sharedpipe.kinds import LONGEST_NAME, is_letters

MOST_LETTERS = 200
MOST_BACK = 10 ** 39 - 1


def show_frame(frame):
    """Return the text of a frame."""
    if frame[0] == "back":
        _, name, many = frame
        return f"b{name},{many};"
    _, stream, letters, waits, ends = frame
    marks = ("w" if waits else "") + ("e" if ends else "")
    return f"d{stream},{len(letters)},{marks}:{letters};"


def read_frames(text):
    """Return the list of the frames with which text, any value, begins, and the rest; raise BadFrame."""
    if not isinstance(text, str):
        raise BadFrame()
    frames = []
    at = 0
    while at < len(text):
        found = frame_at(text, at)
        if found is None:
            return (frames, text[at:])
        frame, at = found
        frames.append(frame)
    return (frames, "")


# The functions below read a part of a frame that stands at a place of a text. They return the
# part and the place behind it, or None if the text ends ahead of its end, and raise BadFrame
# if what stands there cannot become one.


def frame_at(text, at):
    """Read a whole frame."""
    if text[at] == "d":
        return data_at(text, at + 1)
    if text[at] == "b":
        return back_at(text, at + 1)
    raise BadFrame()


def back_at(text, at):
    """Read what stands behind the first sign of a frame that gives credit back."""
    head = head_at(text, at, MOST_BACK, ";")
    if head is None:
        return None
    name, many, at = head
    return (("back", name, many), at)


def data_at(text, at):
    """Read what stands behind the first sign of a frame with letters."""
    head = head_at(text, at, MOST_LETTERS, ",")
    if head is None:
        return None
    stream, many, at = head
    body = body_at(text, at, many)
    if body is None:
        return None
    letters, waits, ends, at = body
    return (("data", stream, letters, waits, ends), at)


def head_at(text, at, most, sign):
    """Read a name and a number that is not too great, with this sign behind them."""
    name, at = run_at(text, at, "a", "z", LONGEST_NAME)
    if at == len(text):
        return None
    if name == "" or text[at] != ",":
        raise BadFrame()
    digits, at = run_at(text, at + 1, "0", "9", len(str(most)))
    if digits.startswith("0") or (digits != "" and int(digits) > most):
        raise BadFrame()
    if at == len(text):
        return None
    if digits == "" or text[at] != sign:
        raise BadFrame()
    return (name, int(digits), at + 1)


def body_at(text, at, many):
    """Read the marks and the letters of a frame, with the sign behind them."""
    waits = text.startswith("w", at)
    at = at + 1 if waits else at
    ends = text.startswith("e", at)
    at = at + 1 if ends else at
    if at == len(text):
        return None
    if text[at] != ":":
        raise BadFrame()
    letters = text[at + 1:at + 1 + many]
    at = at + 1 + many
    if letters != "" and not is_letters(letters):
        raise BadFrame()
    if at >= len(text):
        return None
    if text[at] != ";":
        raise BadFrame()
    return (letters, waits, ends, at + 1)


def run_at(text, at, low, high, most):
    """Read the signs from low to high, at most so many of them; there may be none."""
    end = at
    while end < len(text) and end < at + most and low <= text[end] <= high:
        end = end + 1
    return (text[at:end], end)
