"""The interface: names, arguments under their names, and the files where they are defined."""

import importlib
import inspect
import unittest

from tests.helpers import Case, ROW_SHAPE, SHAPE

FUNCTIONS = {
    "shapes": {"made_shape": "thing", "column": "shape x kept"},
    "stripes": {
        "made_data": "shape data",
        "made_left": "shape left",
        "sums": "shape data",
        "stripe": "shape data",
        "lost_of": "left",
    },
    "fields": {
        "is_prime": "p",
        "inverse": "a p",
        "combined": "row factor other p",
        "left_null": "matrix many p",
        "left_inverse": "matrix many p",
        "solved": "matrix many right p",
    },
    "traces": {"trace": "shape lost x mask"},
}

DATA = ((3,), (5,))
POWERS = ((1,), (2,), (4,))

# Of each function a call with all arguments by name, and what it returns.
CALLS = (
    ("shapes", "made_shape", {"thing": SHAPE}, SHAPE),
    ("shapes", "column", {"kept": (0, 2), "x": 1, "shape": ROW_SHAPE}, (1, 3)),
    ("stripes", "made_data", {"data": DATA, "shape": SHAPE}, DATA),
    ("stripes", "made_left", {"left": (None,) * 5, "shape": SHAPE}, (None,) * 5),
    ("stripes", "sums", {"data": DATA, "shape": ROW_SHAPE}, ((1,), (6,), (4,))),
    ("stripes", "stripe", {"data": DATA, "shape": ROW_SHAPE}, ((1,), (6,), (4,), (3,), (5,))),
    ("stripes", "lost_of", {"left": (None, (1,), None)}, (0, 2)),
    ("fields", "is_prime", {"p": 7}, True),
    ("fields", "inverse", {"p": 7, "a": 3}, 5),
    ("fields", "combined", {"p": 7, "other": (1, 2), "factor": 3, "row": (5, 6)}, (1, 5)),
    ("fields", "left_null", {"p": 7, "many": 1, "matrix": POWERS}, ((1, 0, 5), (0, 1, 3))),
    ("fields", "left_inverse", {"p": 7, "many": 1, "matrix": POWERS}, ((1, 0, 0),)),
    ("fields", "solved", {"p": 7, "right": (5, 3, 6), "many": 1, "matrix": POWERS}, (5,)),
    ("traces", "trace", {"mask": (0, 2), "x": 1, "lost": (1,), "shape": SHAPE}, (1, 4)),
)


def found(module, name):
    return getattr(importlib.import_module(f"sumstand.{module}"), name)


class Interface(Case):
    def test_functions_are_defined_where_they_are_listed(self):
        for module, functions in FUNCTIONS.items():
            for name in functions:
                with self.subTest(module=module, name=name):
                    self.assertTrue(inspect.isfunction(found(module, name)))
                    self.assertEqual(found(module, name).__module__, f"sumstand.{module}")
                    self.assertEqual(found(module, name).__name__, name)

    def test_arguments_have_their_names(self):
        for module, functions in FUNCTIONS.items():
            for name, arguments in functions.items():
                with self.subTest(module=module, name=name):
                    self.assertEqual(list(inspect.signature(found(module, name)).parameters), arguments.split())

    def test_arguments_are_given_by_name(self):
        for module, name, arguments, wanted in CALLS:
            with self.subTest(module=module, name=name):
                self.same(found(module, name)(**arguments), wanted)

    def test_arguments_are_given_by_position(self):
        for module, name, arguments, wanted in CALLS:
            with self.subTest(module=module, name=name):
                given = [arguments[word] for word in FUNCTIONS[module][name].split()]
                self.same(found(module, name)(*given), wanted)

    def test_equal_calls_return_equal_values_and_change_nothing(self):
        for module, name, arguments, _ in CALLS:
            with self.subTest(module=module, name=name):
                before = repr(arguments)
                first = found(module, name)(**arguments)
                self.same(found(module, name)(**arguments), first)
                self.assertEqual(repr(arguments), before)

    def test_each_listed_function_is_called(self):
        called = sorted((module, name) for module, name, _, _ in CALLS)
        listed = sorted((module, name) for module, names in FUNCTIONS.items() for name in names)
        self.assertEqual(called, listed)


if __name__ == "__main__":
    unittest.main()
