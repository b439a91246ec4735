"""[2] and the chapter "The interface": names, arguments, and where they are defined."""

import ast
import importlib
import inspect
import unittest
from pathlib import Path

PACKAGE = Path(__file__).resolve().parent.parent / "allrows"

FUNCTIONS = {
    "changes": ["is_clear(change)", "rests(change)", "clash(change)", "clash_holds(change, value)", "origin(change, row)",
                "origins(change, row, most)"],
    "terms": ["is_over(term, signs)"],
    "readers": ["reached(reader)"],
    "likeness": ["parting(reader, lot, one, other)", "classes(reader, lot)", "merged(reader, lot)", "is_same(one, lot, other, others)",
                 "apart(one, lot, other, others)", "match(one, lot, other, others)", "match_holds(one, lot, other, others, value)",
                 "paired(one, other)", "combined(word, one, lot, other, others)", "backward(reader, lot)"],
    "listing": ["least_row(reader, lot)", "how_many(reader, lot, length)", "row_at(reader, lot, number)", "place_of(reader, lot, row)",
                "longest(reader, lot)", "ring_of(reader, lot)", "ring_holds(reader, lot, value)"],
    "resets": ["reset(reader)", "lasting(reader)", "lasting_holds(reader, value)"],
    "acts": ["act(reader, row)", "first_act(reader)", "act_then(reader, one, other)", "acts(reader)", "undo_row(reader, one)",
             "homes(reader)", "last_homes(reader)"],
    "sights": ["row_with(sight, point)", "lot_closed(sight, value)", "many(sight, point, length)", "rounds(sight)", "lengths(sight, point)",
               "told_apart(sight, row, other)", "seen(askings, name, signs)", "term_led(reader, mark, term, sights, points)"],
    "sums": ["worth(house, total, rows)"],
}

CLASSES = {
    ("changes", "Change"): ["__init__(self, signs, rows)", "of(self, row)", "turned(self)", "parse(signs, text)", "__mul__(self, other)",
                            "__eq__(self, other)", "__str__(self)"],
    ("terms", "Term"): ["__init__(self, parts)", "back(self)", "through(self, change)", "put(self, name, term)", "spelled(self, rows)",
                        "counted(self, signs, tallies)", "of_row(row)", "of_name(name)", "parse(signs, text)", "__add__(self, other)",
                        "__eq__(self, other)", "__str__(self)"],
    ("readers", "Reader"): ["__init__(self, signs, marks, first, steps)", "led(self, mark, row)", "read(self, row)", "parse(text)",
                            "__eq__(self, other)", "__str__(self)"],
    ("sights", "Sight"): ["__init__(self, signs, parts)", "begin(self)", "step(self, point, sign)", "point_of(self, row)",
                          "put_behind(self, point, other)", "points(self)", "__len__(self)", "__eq__(self, other)"],
    ("counts", "Count"): ["__init__(self, reader, adds, ends)", "led(self, mark, row)", "of(self, row)", "parse(text)",
                          "__eq__(self, other)", "__str__(self)"],
    ("sums", "Sum"): ["__init__(self, parts, number=0)", "scaled(self, factor)", "put(self, name, term)", "parse(signs, text)",
                      "__add__(self, other)", "__eq__(self, other)", "__str__(self)"],
}

PROPERTIES = {("changes", "Change"): ["is_plain", "is_void"], ("terms", "Term"): ["names"], ("sums", "Sum"): ["names"]}


def told(name, thing):
    return f"{name}{inspect.signature(thing)}"


class InterfaceTest(unittest.TestCase):
    def test_functions(self):
        for name, functions in FUNCTIONS.items():
            module = importlib.import_module(f"allrows.{name}")
            defined = {one.name for one in ast.parse((PACKAGE / f"{name}.py").read_text()).body if isinstance(one, ast.FunctionDef)}
            for function in functions:
                bare = function.split("(")[0]
                self.assertIn(bare, defined)
                self.assertEqual(told(bare, getattr(module, bare)), function)

    def test_classes(self):
        for (name, cls), methods in CLASSES.items():
            defined = {one.name: one for one in ast.parse((PACKAGE / f"{name}.py").read_text()).body if isinstance(one, ast.ClassDef)}
            inside = {one.name for one in defined[cls].body if isinstance(one, ast.FunctionDef)}
            made = getattr(importlib.import_module(f"allrows.{name}"), cls)
            for method in methods:
                bare = method.split("(")[0]
                self.assertIn(bare, inside)
                self.assertEqual(told(bare, getattr(made, bare)), method)
            for bare in PROPERTIES.get((name, cls), []):
                self.assertIsInstance(made.__dict__[bare], property)

    def test_package(self):
        tree = ast.parse((PACKAGE / "__init__.py").read_text())
        self.assertEqual(len(tree.body), 1)
        self.assertIsInstance(tree.body[0].value, ast.Constant)
        self.assertIsInstance(tree.body[0].value.value, str)


if __name__ == "__main__":
    unittest.main()
