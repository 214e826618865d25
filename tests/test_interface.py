"""The interface as the document lists it: where each name stands, and how it is called."""

import inspect
import pathlib
import unittest

import jawturns
from jawturns import errors, parts, plans, turnings

ERRORS = {
    "BadRound": ["value"], "BadRows": ["at"], "BadTurn": ["value"], "BadStanding": ["value"],
    "BadWord": ["value"], "BadSlack": ["value"], "BadPlan": ["at"], "BadKinds": ["at"], "BadLog": ["at"],
    "BadText": ["at"], "BadMachine": ["state"], "TooMany": ["limit"], "NoPlan": [], "NothingDone": [],
}
CLASSES = {
    turnings.Turning: {
        "__init__": ["around", "rows"], "lifted": ["x"], "__call__": ["x"], "turned": ["c"], "rests": [],
        "is_even": [], "mirrored": [], "__len__": [], "__eq__": ["other"]},
    parts.Part: {
        "__init__": ["squeeze", "push", "widths"], "__getitem__": ["at"], "__setitem__": ["at", "worth"],
        "rests": ["word"], "settled": ["standing", "deed"], "width": ["x"], "turned": ["c"], "mirrored": [],
        "copy": [], "__eq__": ["other"]},
    plans.Plan: {
        "__init__": ["around", "deeds"], "__len__": [], "__getitem__": ["at"], "__add__": ["other"],
        "__mul__": ["other"], "__rmul__": ["other"], "__rshift__": ["other"], "__iter__": [], "__eq__": ["other"]},
}
PROPERTIES = {
    turnings.Turning: ["begins", "period"],
    parts.Part: ["words", "period", "widths"],
}
FUNCTIONS = {
    "carried": ["part", "plan", "x"], "after": ["part", "plan", "standings"], "counts": ["part", "plan"],
    "does": ["part", "plan"], "ends": ["part", "plan"], "joint": ["part", "plan"],
}
OBJECTS = [
    (turnings.Turning(12, [(3, 4), (8, 1)]), ["around", "rows"]),
    (parts.Part(push=turnings.Turning(12, [(3, 4), (8, 1)])), ["around"]),
    (plans.Plan(12, []), ["around", "deeds"]),
]


class Interface(unittest.TestCase):

    def test_errors(self):
        for name, names in ERRORS.items():
            error = vars(errors)[name]
            self.assertEqual(error.__module__, "jawturns.errors")
            if names:
                self.assertEqual(list(inspect.signature(vars(error)["__init__"]).parameters), ["self"] + names)

    def test_methods_stand_in_the_class_itself(self):
        for made, methods in CLASSES.items():
            for name, names in methods.items():
                found = list(inspect.signature(vars(made)[name]).parameters)
                self.assertEqual(found, ["self"] + names, (made, name))
        self.assertIsInstance(vars(turnings.Turning)["of_widths"], classmethod)
        self.assertEqual(list(inspect.signature(turnings.Turning.of_widths).parameters), ["widths"])

    def test_properties(self):
        for made, names in PROPERTIES.items():
            for name in names:
                self.assertIsInstance(vars(made)[name], property)

    def test_attributes_are_set_at_once(self):
        for made, names in OBJECTS:
            for name in names:
                self.assertIn(name, vars(made))

    def test_functions(self):
        for name, names in FUNCTIONS.items():
            function = vars(plans)[name]
            self.assertEqual(function.__module__, "jawturns.plans")
            self.assertEqual(list(inspect.signature(function).parameters), names)
        self.assertIsNone(inspect.signature(plans.after).parameters["standings"].default)

    def test_defaults_of_a_part(self):
        for parameter in inspect.signature(parts.Part).parameters.values():
            self.assertIsNone(parameter.default)


class Files(unittest.TestCase):

    def test_size_and_characters(self):
        folder = pathlib.Path(jawturns.__file__).parent
        for path in sorted(folder.glob("**/*")):
            if path.is_dir() or "__pycache__" in path.parts:
                continue
            self.assertEqual(path.suffix, ".py")
            text = path.read_text(encoding="ascii")
            self.assertNotIn("\t", text)
            self.assertLessEqual(text.count("\n"), 399)
            self.assertLessEqual(max([len(line) for line in text.split("\n")]), 120)


if __name__ == "__main__":
    unittest.main()
