"""The interface as the document lists it: where each name stands, and how it is called."""

import inspect
import pathlib
import unittest

import jawturns
from jawturns import (directions, errors, feeder, glances, lots, machines, parts, plans, plates, quickest, same,
                      sectors, several, shortest, slack, stands, swings, telling, texts, turnings)

ERRORS = {
    "BadRound": ["value"], "BadRows": ["at"], "BadTurn": ["value"], "BadStanding": ["value"],
    "BadWord": ["value"], "BadSlack": ["value"], "BadPlan": ["at"], "BadKinds": ["at"], "BadLog": ["at"],
    "BadText": ["at"], "BadMachine": ["state"], "TooMany": ["limit"], "NoPlan": [], "NothingDone": [],
}
CLASSES = {
    turnings.Turning: {
        "__init__": ["around", "rows"], "lifted": ["x"], "__call__": ["x"], "turned": ["c"], "rests": [],
        "is_even": [], "mirrored": [], "__len__": [], "__eq__": ["other"]},
    parts.Part: {
        "__init__": ["squeeze", "push", "widths"], "__getitem__": ["at"], "__setitem__": ["at", "worth"],
        "rests": ["word"], "settled": ["standing", "deed"], "width": ["x"], "turned": ["c"], "mirrored": [],
        "copy": [], "__eq__": ["other"]},
    plans.Plan: {
        "__init__": ["around", "deeds"], "__len__": [], "__getitem__": ["at"], "__add__": ["other"],
        "__mul__": ["other"], "__rmul__": ["other"], "__rshift__": ["other"], "__iter__": [], "__eq__": ["other"]},
    machines.Let: {
        "__init__": ["around", "rules"], "rules": ["state"], "state_after": ["plan"], "many": ["length"],
        "__eq__": ["other"]},
    feeder.Feeder: {
        "__init__": ["part", "standings"], "__len__": [], "__contains__": ["x"], "__iadd__": ["other"],
        "squeeze": ["turn"], "push": ["turn"], "is_right": [], "put": ["standings"], "undo": [],
        "trying": ["deeds"]},
    slack.Slack: {"__init__": ["rest", "border"], "__eq__": ["other"]},
    plates.Plate: {
        "__init__": ["corners", "centre"], "rests": ["word"], "tops": ["word"], "settled": ["standing", "deed"],
        "width": ["u"], "moved": ["x", "y"], "scaled": ["k"], "quarter": [], "mirrored": [], "__eq__": ["other"]},
}
STATICS = {"steps": ["around", "words", "step", "count"], "fences": ["around", "word", "left", "right"]}
PROPERTIES = {
    turnings.Turning: ["begins", "period"],
    parts.Part: ["words", "period", "widths"],
    machines.Let: ["states", "words"],
    feeder.Feeder: ["standings", "plan"],
    plates.Plate: ["words"],
}
FUNCTIONS = {
    plans: {
        "carried": "(part, plan, x)", "after": "(part, plan, standings=None)", "counts": "(part, plan)",
        "does": "(part, plan)", "ends": "(part, plan)", "joint": "(part, plan)"},
    texts: {
        "plan_text": "(plan)", "turning_text": "(turning)", "let_text": "(let)", "read_plan": "(text)",
        "read_turning": "(text)", "read_let": "(text)"},
    stands: {
        "first_stands": "(part, let=None)", "moves": "(part, stand, let=None)",
        "next_stand": "(part, stand, step, let=None)", "stands_after": "(part, plan, let=None)"},
    shortest: {
        "least_length": "(part, let=None)", "shortest": "(part, let=None)", "paper": "(part, let=None)",
        "is_paper": "(part, length, thing, let=None)", "stuck": "(part, let=None)",
        "is_stuck": "(part, thing, let=None)", "plans": "(part, length, let)"},
    lots: {
        "first_rows": "(parts, let)", "next_row": "(parts, row, step, let, *, spread=0)",
        "all_rows": "(parts, let, *, spread=0)"},
    several: {
        "does_for": "(parts, plan, *, apart=False)", "least_for": "(parts, let, *, apart=False)",
        "shortest_for": "(parts, let, *, apart=False)", "paper_for": "(parts, let, *, apart=False)",
        "is_paper_for": "(parts, let, length, thing, *, apart=False)",
        "stuck_for": "(parts, let, *, apart=False)", "is_stuck_for": "(parts, let, thing, *, apart=False)"},
    same: {
        "same_plans": "(one, other, let)", "within": "(one, other, let)", "parting": "(one, other, let)",
        "same_rows": "(one, other, let)", "is_same": "(one, other, let, thing)", "alike": "(one, other)"},
    slack: {
        "left_after": "(part, slack, plan)", "sure": "(part, slack, plan, room=0)",
        "least_sure": "(part, let, slack, room=0)", "shortest_sure": "(part, let, slack, room=0)",
        "sure_paper": "(part, let, slack, room=0)", "is_sure_paper": "(part, let, slack, room, length, thing)",
        "never_sure": "(part, let, slack, room=0)", "is_never_sure": "(part, let, slack, room, thing)"},
    telling: {
        "shows": "(part, plan, standing)", "fits": "(parts, log)", "where": "(parts, log)",
        "tell": "(parts, let, *, most=12, settled=False)",
        "is_tell": "(parts, let, worst, thing, *, settled=False)",
        "delay": "(parts, let, *, most=12, settled=False)",
        "is_delay": "(parts, let, length, thing, *, settled=False)"},
    directions: {
        "least": "(d)", "times": "(d, e)", "back": "(d)", "opposite": "(d)", "ahead": "(d, e)",
        "within": "(d, low, high)", "ascending": "(row)"},
    sectors: {
        "first_arcs": "(plate)", "arc_behind": "(plate, arc, step)", "sectors": "(plate, arc, word)",
        "arcs_after": "(plate, plan)"},
    quickest: {
        "least_deeds": "(plate)", "quickest": "(plate)", "quick_paper": "(plate)",
        "is_quick_paper": "(plate, length, thing)", "standings_left": "(plate, plan)",
        "comes_right": "(plate, plan)", "end_standing": "(plate, plan)"},
    swings: {"swings": "(plate, plan, at)"},
    glances: {"shown": "(plate, plan, standing)", "where_now": "(plates, log)", "apart": "(plates, plan)"},
}
OBJECTS = [
    (turnings.Turning(12, [(3, 4), (8, 1)]), ["around", "rows"]),
    (parts.Part(push=turnings.Turning(12, [(3, 4), (8, 1)])), ["around"]),
    (plans.Plan(12, []), ["around", "deeds"]),
    (machines.Let(12, {"start": []}), ["around"]),
    (slack.Slack(1, 2), ["rest", "border"]),
    (plates.Plate([(0, 0), (4, 0), (1, 2)]), ["corners", "centre", "turnings"]),
]


class Interface(unittest.TestCase):

    def test_errors(self):
        for name, names in ERRORS.items():
            error = vars(errors)[name]
            self.assertEqual(error.__module__, "jawturns.errors")
            if names:
                self.assertEqual(list(inspect.signature(vars(error)["__init__"]).parameters), ["self"] + names)

    def test_methods_stand_in_the_class_itself(self):
        for made, methods in CLASSES.items():
            for name, names in methods.items():
                found = list(inspect.signature(vars(made)[name]).parameters)
                self.assertEqual(found, ["self"] + names, (made, name))
        self.assertIsInstance(vars(turnings.Turning)["of_widths"], classmethod)
        self.assertEqual(list(inspect.signature(turnings.Turning.of_widths).parameters), ["widths"])
        for name, names in STATICS.items():
            self.assertIsInstance(vars(machines.Let)[name], staticmethod)
            self.assertEqual(list(inspect.signature(vars(machines.Let)[name]).parameters), names)

    def test_properties(self):
        for made, names in PROPERTIES.items():
            for name in names:
                self.assertIsInstance(vars(made)[name], property)

    def test_attributes_are_set_at_once(self):
        for made, names in OBJECTS:
            for name in names:
                self.assertIn(name, vars(made))

    def test_functions(self):
        for module, functions in FUNCTIONS.items():
            for name, told in functions.items():
                function = vars(module)[name]
                self.assertTrue(inspect.isfunction(function))
                self.assertEqual(function.__module__, module.__name__)
                self.assertEqual(str(inspect.signature(function)), told)
        self.assertTrue(inspect.isgeneratorfunction(shortest.plans))

    def test_defaults_of_a_part(self):
        for parameter in inspect.signature(parts.Part).parameters.values():
            self.assertIsNone(parameter.default)
        self.assertIsNone(inspect.signature(feeder.Feeder).parameters["standings"].default)
        self.assertIsNone(inspect.signature(plates.Plate).parameters["centre"].default)


class Files(unittest.TestCase):

    def test_size_and_characters(self):
        folder = pathlib.Path(jawturns.__file__).parent
        for path in sorted(folder.glob("**/*")):
            if path.is_dir() or "__pycache__" in path.parts:
                continue
            self.assertEqual(path.suffix, ".py")
            text = path.read_text(encoding="ascii")
            self.assertNotIn("\t", text)
            self.assertLessEqual(text.count("\n"), 399)
            self.assertLessEqual(max([len(line) for line in text.split("\n")]), 120)


if __name__ == "__main__":
    unittest.main()
