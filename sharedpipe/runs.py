"""Runs: lists and tuples of steps."""

from sharedpipe.errors import Broken, NoCredit, NoStep, Unready
from sharedpipe.machine import Machine
from sharedpipe.steps import letters_of


def played(plan, run):
    """Return the Machine behind a run of any values; raise Broken for the first that cannot be done."""
    machine = Machine(plan)
    for at, step in enumerate(steps_of(run)):
        if not does(machine, step):
            raise Broken(at)
    return machine


def is_run(plan, thing):
    """Return whether thing, any value, is a run of a plan."""
    try:
        played(plan, thing)
    except Broken:
        return False
    return True


def letters(run):
    """Return how many letters the steps of a run send."""
    return sum([letters_of(step) for step in run])


def walk(plan, run):
    """Yield what all pools have left at the beginning, and behind each step of a run; raise Broken."""
    steps = steps_of(run)
    machine = Machine(plan)
    yield lefts(machine)
    for at, step in enumerate(steps):
        if not does(machine, step):
            raise Broken(at)
        yield lefts(machine)


def steps_of(run):
    """Return the list of what stands in a run of any values."""
    # What is no list and no tuple is no step either, so that a run of it is broken at once.
    return list(run) if isinstance(run, (list, tuple)) else [run]


def does(machine, step):
    """Let a Machine do a step, any value, and return whether it could."""
    try:
        machine.step(step)
    except (NoStep, Unready, NoCredit):
        return False
    return True


def lefts(machine):
    """Return the dict from the names of all pools, ascending, to the credit that they have left."""
    plan = machine.plan()
    return {name: machine.left_of(name) for name in sorted(plan.shared() + plan.streams())}
