import importlib
import inspect
import unittest

# Each file of the interface that has landed, with its functions: their parameters and defaults as written.
FUNCTIONS = {
    "toolroad.amounts": {
        "is_number": "(thing)",
        "ratio": "(top, bottom=1)",
        "plus": "(u, v)",
        "minus": "(u, v)",
        "times": "(u, v)",
        "over": "(u, v)",
        "is_below": "(u, v)",
        "whole": "(u)",
        "root": "(u)",
        "number_text": "(u)",
    },
    "toolroad.places": {
        "heading_of": "(p, q)",
        "turned": "(place, by)",
        "distance": "(one, other)",
        "heading_to": "(one, other)",
    },
    "toolroad.steps": {
        "is_step": "(thing)",
        "is_cut": "(thing)",
        "headings": "(cut)",
        "lies_on": "(cut, place)",
    },
    "toolroad.rows": {
        "read_program": "(text)",
        "program_text": "(rows)",
    },
    "toolroad.frames": {
        "led_place": "(frames, place)",
        "led_direction": "(frames, place)",
        "led_from": "(frames, place)",
        "is_about": "(frames)",
    },
    "toolroad.roads": {
        "road_of": "(text)",
    },
    "toolroad.states": {
        "state_at": "(text, number)",
        "read_state": "(text, row)",
        "road_from": "(text, state)",
    },
    "toolroad.ways": {
        "way_of": "(road)",
    },
    "toolroad.chords": {
        "chords": "(arc, *, within)",
        "are_chords": "(arc, thing, *, within)",
    },
    "toolroad.limits": {
        "entry_caps": "(way, *, pull=(2, 1))",
        "joint_caps": "(way, *, pull=(2, 1), jolt=(1, 1))",
    },
    "toolroad.plans": {
        "is_plan": "(way, thing, *, pull=(2, 1), jolt=(1, 1), up=(1, 1), down=(1, 2))",
        "quickest": "(way, *, pull=(2, 1), jolt=(1, 1), up=(1, 1), down=(1, 2))",
    },
    "toolroad.papers": {
        "paper_of": "(way, *, pull=(2, 1), jolt=(1, 1), up=(1, 1), down=(1, 2))",
        "is_held": "(way, plan, thing, *, pull=(2, 1), jolt=(1, 1), up=(1, 1), down=(1, 2))",
    },
}
# Each class of these files, with its methods: each stands in the class itself.
CLASSES = {
    "toolroad.roads": {
        "Road": {"__init__": "(self, entries)", "entries": "(self)", "__len__": "(self)", "__eq__": "(self, other)",
                 "__repr__": "(self)"},
    },
    "toolroad.states": {
        "State": {"__init__": "(self, trail, place, mode, pace, side, frames)", "__eq__": "(self, other)",
                  "__str__": "(self)", "__repr__": "(self)"},
    },
    "toolroad.ahead": {
        "Ahead": {"__init__": "(self, window, *, pull=(2, 1), jolt=(1, 1), up=(1, 1), down=(1, 2))",
                  "feed": "(self, entry)", "close": "(self)", "__len__": "(self)"},
    },
    "toolroad.mill": {
        "Mill": {"__init__": "(self, text)", "do": "(self, many=1)", "done": "(self)", "spot": "(self)",
                 "is_down": "(self)", "state": "(self)", "log": "(self)", "leave": "(self)", "take_up": "(self)",
                 "lifted": "(self, deed)", "__len__": "(self)"},
    },
}
CONSTANTS = {
    "toolroad.rows": {"MOST_ROWS": 80},
    "toolroad.limits": {"PULL": (2, 1), "JOLT": (1, 1), "UP": (1, 1), "DOWN": (1, 2)},
}
# The errors' values, by their places; those that are not here have none.
VALUES = {
    "NoText": ["at"], "Uneven": ["row"], "NoFrame": ["row"], "TooDeep": ["row"], "TooMany": ["most"],
    "Unled": ["number"], "Gouge": ["number"], "Unmet": ["number"], "NoPiece": ["name"], "NoStep": ["number", "many"],
}


class InterfaceTest(unittest.TestCase):
    def test_functions(self):
        for file, functions in FUNCTIONS.items():
            for name, due in functions.items():
                with self.subTest(file=file, name=name):
                    function = getattr(importlib.import_module(file), name)
                    self.assertTrue(inspect.isfunction(function))
                    self.assertEqual(str(inspect.signature(function)), due)
                    self.assertEqual(function.__module__, file)
                    self.assertEqual(function.__name__, name)

    def test_classes(self):
        for file, classes in CLASSES.items():
            for name, methods in classes.items():
                kind = getattr(importlib.import_module(file), name)
                self.assertTrue(inspect.isclass(kind))
                self.assertEqual((kind.__module__, kind.__name__), (file, name))
                for method, due in methods.items():
                    with self.subTest(file=file, name=name, method=method):
                        self.assertIn(method, vars(kind))
                        self.assertEqual(str(inspect.signature(vars(kind)[method])), due)

    def test_constants(self):
        for file, constants in CONSTANTS.items():
            for name, due in constants.items():
                with self.subTest(file=file, name=name):
                    self.assertEqual(repr(getattr(importlib.import_module(file), name)), repr(due))

    def test_errors_values(self):
        errors = importlib.import_module("toolroad.errors")
        for name, kind in inspect.getmembers(errors, inspect.isclass):
            with self.subTest(name):
                self.assertEqual(kind.__module__, "toolroad.errors")
                if name in VALUES:
                    self.assertEqual(list(inspect.signature(kind.__init__).parameters)[1:], VALUES[name])

    def test_errors_by_their_values_names(self):
        errors = importlib.import_module("toolroad.errors")
        for name, values in VALUES.items():
            with self.subTest(name):
                made = getattr(errors, name)(**{value: 5 for value in values})
                self.assertEqual([getattr(made, value) for value in values], [5 for _ in values])


if __name__ == "__main__":
    unittest.main()
