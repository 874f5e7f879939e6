"""The errors of the package, each with what it was constructed from as fields."""


class PipeError(ValueError):
    """The error over all others of this package."""


class Wrong(PipeError):
    """The argument at this place is not as described."""

    def __init__(self, place):
        self.place = place


class TooMany(PipeError):
    """There would be more than this limit allows."""

    def __init__(self, limit):
        self.limit = limit


class Overdrawn(PipeError):
    """Fewer letters than this are left of a credit."""

    def __init__(self, many):
        self.many = many


class NotPassed(PipeError):
    """Fewer letters than this were sent and have not passed."""

    def __init__(self, many):
        self.many = many


class Twice(PipeError):
    """This name stands for two things."""

    def __init__(self, name):
        self.name = name


class Unknown(PipeError):
    """Nothing of the kind that is asked for has this name."""

    def __init__(self, name):
        self.name = name


class Ring(PipeError):
    """The group of this name lies in itself."""

    def __init__(self, name):
        self.name = name


class BadGuide(PipeError):
    """The stream of this name cannot have the guide that it has."""

    def __init__(self, name):
        self.name = name


class Narrow(PipeError):
    """The pool of this name could be too small for ever."""

    def __init__(self, name):
        self.name = name


class NoStep(PipeError):
    """What was to be done is no step of the plan."""

    def __init__(self):
        super().__init__()


class Unready(PipeError):
    """This stream does not stand where it can do that."""

    def __init__(self, stream):
        self.stream = stream


class NoCredit(PipeError):
    """The pool of this name has too little credit left."""

    def __init__(self, name):
        self.name = name


class Nothing(PipeError):
    """There is nothing to be taken back or to be done again."""

    def __init__(self):
        super().__init__()


class Broken(PipeError):
    """What stands at this place, counted from 0, cannot be done."""

    def __init__(self, at):
        self.at = at


class BadSlow(PipeError):
    """These are no slow streams of the plan."""

    def __init__(self):
        super().__init__()


class BadFrame(PipeError):
    """The text has no frames that can be taken."""

    def __init__(self):
        super().__init__()


class IsSlow(PipeError):
    """This stream is one of the slow ones."""

    def __init__(self, stream):
        self.stream = stream


class Unlike(PipeError):
    """The two plans have unlike streams or guides."""

    def __init__(self):
        super().__init__()


class NoDeed(PipeError):
    """What was to be done is no deed."""

    def __init__(self):
        super().__init__()


class Full(PipeError):
    """There are as many entries as this limit allows."""

    def __init__(self, limit):
        self.limit = limit


class Refused(PipeError):
    """This deed cannot be done to the plan."""

    def __init__(self, deed):
        self.deed = deed


class NoEntry(PipeError):
    """There are not so many entries."""

    def __init__(self, many):
        self.many = many


class NoText(PipeError):
    """The text is not the text of anything."""

    def __init__(self):
        super().__init__()


class NoCommand(PipeError):
    """The line is no command."""

    def __init__(self):
        super().__init__()
