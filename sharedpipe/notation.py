"""Notation: rules, plans, steps, runs, deeds and logs as texts."""

from sharedpipe.book import Book
from sharedpipe.errors import Broken, NoText, PipeError
from sharedpipe.plans import Plan
from sharedpipe.steps import FORMS
from sharedpipe.texts import NONE, read_perhaps, read_whole_rule, read_word, shown

WAIT = "wait"
BETWEEN_STEPS = ", "
# The words of lines with which a plan begins and goes on, in their order.
PIPE_LINE = "pipe"
PART_LINES = ("house", "kind", "stream")


def show_rule(rule):
    """Return the text of a Rule."""
    return shown(rule)


def show_plan(plan):
    """Return the text of a Plan."""
    pipe, houses, kinds, streams = plan.parts()
    rows = [(PIPE_LINE,) + pipe]
    for word, table in zip(PART_LINES, (houses, kinds, streams)):
        rows = rows + [(word, name) + told for name, told in table.items()]
    return "\n".join([show_words(row) for row in rows])


def show_step(step):
    """Return the text of a step."""
    if isinstance(step[-1], bool):
        return show_words(step[:-1] + (WAIT,) if step[-1] else step[:-1])
    return show_words(step)


def show_run(run):
    """Return the text of a run."""
    return BETWEEN_STEPS.join([show_step(step) for step in run]) if len(run) > 0 else NONE


def show_deed(deed):
    """Return the text of a deed."""
    if deed[0] in PART_LINES:
        return show_words(deed[:2] + deed[2])
    return show_words(deed)


def show_log(book):
    """Return the text of the log of a Book."""
    return "\n".join([show_deed(deed) for deed in book.log()])


def read_rule(text):
    """Return the Rule that has this text, any value; raise NoText."""
    check_text(text)
    return read_whole_rule(text)


def read_plan(text):
    """Return the Plan that has this text, any value; raise NoText, then what Plan raises for its parts."""
    check_text(text)
    first, *rest = text.split("\n")
    words = first.split(" ")
    if len(words) != 4 or words[0] != PIPE_LINE:
        raise NoText()
    pipe = (read_word("number", words[1]), read_word("rule", words[2]), read_word("moment", words[3]))
    deeds = [read_deed(line) for line in rest]
    if not all([deed[0] in PART_LINES for deed in deeds]):
        raise NoText()
    places = [(PART_LINES.index(deed[0]), deed[1]) for deed in deeds]
    if places != sorted(set(places)):
        raise NoText()
    houses, kinds, streams = [{deed[1]: deed[2] for deed in deeds if deed[0] == word} for word in PART_LINES]
    return Plan(pipe, houses, kinds, streams)


def read_step(text):
    """Return the step that has this text, any value; raise NoText."""
    check_text(text)
    words = text.split(" ")
    if words[0] not in FORMS:
        raise NoText()
    numbers = [kind for kind in FORMS[words[0]] if kind == "number"]
    truths = ()
    if len(numbers) < len(FORMS[words[0]]):
        truths = (words[-1] == WAIT,)
        words = words[:-1] if truths[0] else words
    if len(words) != len(numbers) + 2:
        raise NoText()
    step = (words[0], read_word("name", words[1]))
    return step + tuple([read_word("number", word) for word in words[2:]]) + truths


def read_run(text):
    """Return the run that has this text, any value, a list; raise NoText."""
    check_text(text)
    return [] if text == NONE else [read_step(part) for part in text.split(BETWEEN_STEPS)]


def read_deed(text):
    """Return the deed that has this text, any value; raise NoText."""
    check_text(text)
    word, *rest = text.split(" ")
    if word == "gone" and len(rest) == 1:
        return (word, read_word("name", rest[0]))
    if word == "pool" and len(rest) == 4:
        told = (read_perhaps("number", rest[1]), read_perhaps("rule", rest[2]), read_perhaps("moment", rest[3]))
        return (word, read_word("name", rest[0])) + told
    if word in ("house", "kind") and len(rest) == 5:
        told = (read_word("number", rest[1]), read_word("rule", rest[2]), read_word("moment", rest[3]))
        return (word, read_word("name", rest[0]), told + (read_perhaps("name", rest[4]),))
    if word == "stream" and len(rest) == 7:
        told = (read_word("number", rest[1]), read_word("rule", rest[2]), read_perhaps("number", rest[3]))
        return (word, read_word("name", rest[0]), told + tuple([read_perhaps("name", name) for name in rest[4:]]))
    raise NoText()


def read_log(plan, text):
    """Return the Book of a Plan with the log that has this text, any value; raise NoText, then Broken."""
    check_text(text)
    deeds = [] if text == "" else [read_deed(line) for line in text.split("\n")]
    book = Book(plan)
    for at, deed in enumerate(deeds):
        try:
            book.do(deed)
        except PipeError:
            raise Broken(at) from None
    return book


def check_text(thing):
    """Raise NoText if thing, any value, is no string."""
    if not isinstance(thing, str):
        raise NoText()


def show_words(things):
    """Return the texts of some things with a blank between each two."""
    return " ".join([shown(thing) for thing in things])
