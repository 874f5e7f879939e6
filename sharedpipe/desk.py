"""Desks: books that are led by lines."""

from sharedpipe.book import Book
from sharedpipe.errors import Broken, NoCommand, NoText
from sharedpipe.formulas import bend, least_credit, terms
from sharedpipe.fullness import stopped
from sharedpipe.kinds import is_name
from sharedpipe.notation import read_deed, read_run, show_deed, show_log, show_plan, show_run
from sharedpipe.papers import stop_run
from sharedpipe.runs import played
from sharedpipe.slowsets import slow_sets
from sharedpipe.stops import stopping
from sharedpipe.texts import NONE, listed, shown


class Desk:
    """A Book of a Plan, led by lines."""

    def __init__(self, plan):
        self._book = Book(plan)

    def execute(self, line):
        """Do what a line, any value, says and return the answer; raise NoCommand, or what is raised by what it asks."""
        if not isinstance(line, str):
            raise NoCommand()
        if line == "back":
            return show_deed(self._book.back())
        if line == "again":
            return show_deed(self._book.again())
        if line == "plan":
            return show_plan(self._book.plan())
        if line == "log":
            return show_log(self._book)
        word, _, rest = line.partition(" ")
        if word in FORMS:
            answer = ANSWERS[word]
            plan = self._book.plan()
            things = asked(FORMS[word], rest)
            return answer(plan, *things)
        return listed(self._book.do(deed_of(line)))


def deed_of(line):
    """Return the deed that has this line as its text; raise NoCommand."""
    try:
        return read_deed(line)
    except NoText:
        raise NoCommand() from None


def asked(form, text):
    """Return the list of the things of which a text tells, by their form; raise NoCommand."""
    # What stands last has all further blanks in it, as a run has some.
    words = text.split(" ", len(form) - 1)
    if len(words) != len(form):
        raise NoCommand()
    return [thing_of(kind, word) for kind, word in zip(form, words)]


def thing_of(kind, word):
    """Return the name, slow set or run that a word is; raise NoCommand."""
    if kind == "run":
        return run_of(word)
    if kind == "slow" and word == NONE:
        return []
    names = word.split(",") if kind == "slow" else [word]
    if not all([is_name(name) for name in names]):
        raise NoCommand()
    return names if kind == "slow" else word


def run_of(text):
    """Return the run that has this text; raise NoCommand."""
    try:
        return read_run(text)
    except NoText:
        raise NoCommand() from None


def answer_stopping(plan, slow):
    """Return the streams that can be stopped, listed."""
    return listed(stopping(plan, slow))


def answer_run(plan, stream, slow):
    """Return a run that stops a stream, as a text."""
    run = stop_run(plan, stream, slow)
    return "safe" if run is None else show_run(run)


def answer_slow(plan, stream):
    """Return the least slow sets by which a stream can be stopped, as a text."""
    found = slow_sets(plan, stream)
    return " ".join([listed(slow) for slow in found]) if len(found) > 0 else "none"


def answer_least(plan, slow):
    """Return the least credit of the pipe that is always enough, as a text."""
    return shown(least_credit(plan, slow))


def answer_terms(plan, slow):
    """Return the formula of the least credit, as a text."""
    return " ".join(["+".join([shown(constant), *names]) for constant, names in terms(plan, slow)])


def answer_bend(plan, stream, slow):
    """Return the own credit of a stream from which on the least credit does not grow with it, as a text."""
    return shown(bend(plan, slow, stream))


def answer_play(plan, slow, run):
    """Return the streams that are stopped behind a run, listed."""
    try:
        machine = played(plan, run)
    except Broken:
        return "no"
    return listed(stopped(machine, slow))


# What stands behind the words that ask, and what answers them.
FORMS = {
    "stopping": ("slow",),
    "run": ("name", "slow"),
    "slow": ("name",),
    "least": ("slow",),
    "terms": ("slow",),
    "bend": ("name", "slow"),
    "play": ("slow", "run"),
}
ANSWERS = {
    "stopping": answer_stopping,
    "run": answer_run,
    "slow": answer_slow,
    "least": answer_least,
    "terms": answer_terms,
    "bend": answer_bend,
    "play": answer_play,
}
