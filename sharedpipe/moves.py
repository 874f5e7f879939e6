"""What a step of a plan asks for, and what it does to the pools and to the streams."""

from sharedpipe.pools import after_flows, after_frames, after_readings


def is_ready(plan, line, step):
    """Return whether the stream of a step, at work as a Line, stands where it can do the step."""
    word, stream, size = step[:3]
    if word == "send":
        return line.hand() is not None and size * step[3] <= line.hand()[0] - line.hand()[1]
    if word == "read":
        return size * step[3] <= line.readable()
    if word == "fetch":
        return step[2] <= line.readable()
    if line.hand() is not None or (plan.most(stream) is not None and size > plan.most(stream)):
        return False
    if word == "pass":
        return line.lying() == []
    waits = step[-1]
    return not waits or plan.guide(stream) is not None


def pools_behind(plan, pools, line, step):
    """Return the pools behind a step for which its stream is ready; raise NoCredit."""
    word, stream = step[:2]
    if word in ("send", "put"):
        return after_frames(plan, pools, stream, step[2], step[3])
    if word == "pass":
        return after_flows(plan, pools, stream, step[2], step[3])
    if word == "read":
        return after_readings(plan, pools, stream, [(step[2], step[3])])
    if word == "fetch":
        return after_readings(plan, pools, stream, line.first(step[2]))
    return pools


def line_behind(line, step):
    """Return the Line of a stream behind its step."""
    word, size = step[0], step[2]
    if word == "begin":
        return line.begun(size, step[3])
    if word == "send":
        grown = line.grown(size * step[3])
        return grown.ended() if grown.hand()[0] == grown.hand()[1] else grown
    if word == "put":
        return line.filled_up(size, step[3], step[4])
    if word == "pass":
        return line.passed(size, step[3])
    if word == "read":
        return line.taken(size * step[3])
    return line.taken(step[2])


def lines_behind(plan, lines, stream, line):
    """Return the Lines of all streams when that of one has become another, and what this one released."""
    behind = dict(lines)
    behind[stream] = line
    if line.counts()[2] == lines[stream].counts()[2]:
        return behind
    for name in plan.streams():
        if plan.guide(name) == stream:
            behind[name] = lines[name].released()
    return behind
