"""The interface: each name is defined in its file, each method in its class, with the arguments that are listed."""

import importlib
import inspect
import unittest

FUNCTIONS = {
    "kinds": ["is_integer(thing)", "is_number(least, thing)", "is_name(thing)", "is_letters(thing)",
              "is_moment(thing)"],
    "rules": ["at_least(least, by=1)"],
    "comparing": ["apart(one, other)", "above(one, other)"],
    "repeating": ["repeated(rule, withheld, size, many)"],
    "runs": ["played(plan, run)", "walk(plan, run)", "is_run(plan, thing)", "letters(run)"],
    "fullness": ["stands_full(machine, name, slow)", "stopped(machine, slow)"],
    "frames": ["show_frame(frame)", "read_frames(text)"],
    "fills": ["holds(plan, name, slow)", "filled(plan, name, slow)", "fill(plan, name, slow)",
              "is_fill(plan, name, slow, thing)"],
    "covers": ["cover_sum(plan, name, slow, cover)", "cover(plan, name, slow)", "is_cover(plan, name, slow, thing)"],
    "stops": ["can_fill(plan, name, slow)", "can_stop(plan, stream, slow)", "stopping(plan, slow)",
              "fewest_letters(plan, stream, slow)"],
    "papers": ["stop_run(plan, stream, slow)", "safe_paper(plan, stream, slow)",
               "is_stop_run(plan, stream, slow, thing)", "is_safe_paper(plan, stream, slow, thing)"],
    "slowsets": ["slow_sets(plan, stream)", "borne(plan)", "parted(plan, other)"],
    "standings": ["standing_of(machine)", "is_closed(plan, thing)"],
    "notation": ["show_rule(rule)", "show_plan(plan)", "show_step(step)", "show_run(run)", "show_deed(deed)",
                 "show_log(book)", "read_rule(text)", "read_plan(text)", "read_step(text)", "read_run(text)",
                 "read_deed(text)", "read_log(plan, text)"],
    "formulas": ["least_credit(plan, slow)", "terms(plan, slow)", "bend(plan, slow, stream)", "raised(plan, slow)"],
}
CLASSES = {
    ("rules", "Rule(tree)"): ["rest(amount)", "tree()", "__call__(amount)", "__or__(other)", "__and__(other)",
                              "__eq__(other)"],
    ("accounts", "Account(credit, rule)"): [
        "passes(size, many)", "flows(size, many)", "copied()", "__eq__(other)", "__bool__()", "__isub__(many)",
        "__iadd__(many)"],
    ("plans", "Plan(pipe, houses, kinds, streams)"): [
        "streams()", "houses()", "kinds()", "shared()", "guides()", "over(stream)", "under(name)", "most(stream)",
        "guide(stream)", "parts()", "with_pool(name, *, credit=None, rule=None, moment=None)", "renamed(names)",
        "__eq__(other)", "__contains__(name)", "__getitem__(name)"],
    ("machine", "Machine(plan)"): [
        "step(step)", "back()", "left_of(name)", "unpassed_of(name)", "withheld_of(name)", "readable(stream)",
        "lying(stream)", "hand(stream)", "counts(stream)", "sent()", "steps()", "plan()", "copied()", "__eq__(other)",
        "__len__()"],
    ("sender", "Sender(plan)"): [
        "write(stream, letters, *, waits=False)", "frame(stream, many)", "take(text)", "left_of(name)",
        "unsent(stream)",
        "copied()"],
    ("reader", "Reader(plan)"): [
        "take(text)", "read(stream, many)", "backs()", "left_of(name)", "unpassed_of(name)", "withheld_of(name)",
        "readable(stream)", "lying(stream)", "copied()"],
    ("standings", "Standings(plan, *, most=1000)"): [
        "rows()", "full(name, slow)", "stopping(slow)", "__len__()", "__contains__(row)"],
    ("book", "Book(plan)"): [
        "do(deed)", "back()", "again()", "plan()", "log()", "past(many)", "tried(deed)", "copied()", "tries(act)",
        "__eq__(other)", "__len__()"],
    ("desk", "Desk(plan)"): ["execute(line)"],
}
PROPERTIES = {("rules", "Rule"): ["threshold"], ("accounts", "Account"): ["credit", "left", "unpassed", "withheld",
    "rule"]}


def listed(module, name):
    """Return what a file of the package defines under a name."""
    return vars(importlib.import_module("sharedpipe." + module))[name]


def shown(thing, name):
    """Return a name with the arguments of a function or method, without the object of a method."""
    told = str(inspect.signature(thing))
    return name + told.replace("(self, ", "(").replace("(self)", "()")


class Interface(unittest.TestCase):
    def test_functions(self):
        for module, rows in FUNCTIONS.items():
            for row in rows:
                thing = listed(module, row.split("(")[0])
                self.assertEqual(thing.__module__, "sharedpipe." + module)
                self.assertEqual(shown(thing, thing.__name__), row)

    def test_classes(self):
        for (module, row), methods in CLASSES.items():
            thing = listed(module, row.split("(")[0])
            self.assertEqual(thing.__module__, "sharedpipe." + module)
            self.assertEqual(shown(thing.__init__, thing.__name__), row)
            for method in methods:
                found = vars(thing)[method.split("(")[0]]
                self.assertEqual(shown(found, found.__name__), method)

    def test_properties(self):
        for (module, name), rows in PROPERTIES.items():
            for row in rows:
                self.assertIsInstance(vars(listed(module, name))[row], property)
