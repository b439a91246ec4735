"""[2] and the chapter "The interface": names, arguments, and where they are defined."""

import ast
import importlib
import inspect
import unittest
from pathlib import Path

PACKAGE = Path(__file__).resolve().parent.parent / "allrows"

FUNCTIONS = {
    "changes": ["is_clear(change)", "rests(change)", "clash(change)", "clash_holds(change, value)", "origin(change, row)",
                "origins(change, row, most)"],
    "terms": ["is_over(term, signs)"],
    "readers": ["reached(reader)"],
    "likeness": ["parting(reader, lot, one, other)", "classes(reader, lot)", "merged(reader, lot)", "is_same(one, lot, other, others)",
                 "apart(one, lot, other, others)", "match(one, lot, other, others)", "match_holds(one, lot, other, others, value)",
                 "paired(one, other)", "combined(word, one, lot, other, others)", "backward(reader, lot)"],
    "listing": ["least_row(reader, lot)", "how_many(reader, lot, length)", "row_at(reader, lot, number)", "place_of(reader, lot, row)",
                "longest(reader, lot)", "ring_of(reader, lot)", "ring_holds(reader, lot, value)"],
    "resets": ["reset(reader)", "lasting(reader)", "lasting_holds(reader, value)"],
    "acts": ["act(reader, row)", "first_act(reader)", "act_then(reader, one, other)", "acts(reader)", "undo_row(reader, one)",
             "homes(reader)", "last_homes(reader)"],
    "sights": ["row_with(sight, point)", "lot_closed(sight, value)", "many(sight, point, length)", "rounds(sight)", "lengths(sight, point)",
               "told_apart(sight, row, other)", "seen(askings, name, signs)", "term_led(reader, mark, term, sights, points)"],
    "sums": ["worth(house, total, rows)"],
    "deciding": ["true_at(saying, rows)", "holds(saying)", "fails(saying)", "agree(one, other)", "sight_of(saying, name)",
                 "truth(saying, sights, points)"],
    "trees": ["tree_for(saying)", "tree_against(saying)", "tree_for_holds(saying, value)", "tree_against_holds(saying, value)"],
    "heights": ["most(total, saying)", "least(total, saying)", "best_rows(total, saying)", "clear(total, saying)", "is_constant(total, saying)",
                "same_worth(one, other, saying)", "at_most(total, saying, bound)", "heights(total, saying, bound)",
                "heights_hold(total, saying, bound, value)"],
    "slopes": ["rate(total, saying)", "slopes(total, saying, slope)", "slopes_hold(total, saying, slope, value)", "ring(total, saying)",
               "ring_holds(total, saying, value)", "rows_above(total, saying, bound)"],
    "conditions": ["both(one, other)", "either(one, other)", "rest(one, other)", "contrary(condition)", "every(signs)", "only(signs, rows)"],
    "rowsets": ["least_let(condition)", "is_endless(condition)", "many(condition, length)", "kth(condition, number)", "place(condition, row)",
                "parting(one, other)", "within_paper(one, other)", "within_holds(one, other, value)"],
    "leading": ["turned(condition)", "joined(one, other)", "ahead(condition, row)", "before(condition, change)", "after(condition, change)"],
    "wheres": ["where(saying, name)", "some_where(saying, name)", "clash(house, condition, names)", "decides(house, condition, names)",
               "deciders(house, condition)", "told_as(house, condition, names, name)"],
    "halves": ["halves(one, other)", "is_half(one, other, condition)", "broken(one, other)", "is_only(one, other)", "loose_rows(one, other)",
               "fewest_half(one, other)"],
    "quantless": ["unquantified(saying)"],
    "rules": ["overlaps(rules)", "open_overlaps(rules)", "is_complete(rules)", "plain_rows(rules)", "many_plain(rules, long)",
              "chain(rules, one, other)", "chain_holds(rules, one, other, value)"],
    "rewriting": ["least_ones(readers)", "least_like(readers, row)", "rules_of(readers)", "unsound(readers, rules)", "fits(readers, rules)",
                  "misfit(readers, rules)", "tells(readers, others)", "untold(readers, others)", "turns(readers, row)", "power(readers, row, many)",
                  "turning(readers)", "behind(readers, one, other)", "ahead(readers, one, other)", "commute(readers)",
                  "always_alike(readers, one, other)", "parting_rows(readers, one, other)"],
    "looker": ["first_wrong(lines, told=())", "deduction_holds(claim, value, told=())"],
    "deductions": ["uses(lines)", "told_of(lines)", "shortened(lines)", "filled(lines, name, other)", "deduction_of(claim)", "grown(saying, name)",
                   "kept(saying, name)", "failures(lines, told=())", "mended(lines, told=())"],
    "roads": ["patterns(atoms)", "nos(atoms)", "jump(atoms, road)", "follows(atoms, saying)", "cores(atoms, saying)", "by_cases(atoms, saying)",
              "split(atoms, saying)", "least_depth(atoms, saying)", "split_holds(atoms, saying, value)"],
    "books": ["cited_names(lines)", "wrong(book)", "untrue(book)", "guilty(book)", "whole_lines(book, name)", "mended_book(book)",
              "both_books(one, other)"],
    "hangs": ["cites(book, name)", "hangs_on(book, name)", "bears(book, name)", "taken_out(book, names)", "kept_for(book, names)", "tainted(book)",
              "rests(book)"],
    "bases": ["is_enough(book, name, names)", "bases(book, name)", "cuts(book, name)", "road_to(book, name)", "road_to_holds(book, name, value)",
              "is_order(book, names)", "orders(book)"],
}

CLASSES = {
    ("changes", "Change"): ["__init__(self, signs, rows)", "of(self, row)", "turned(self)", "parse(signs, text)", "__mul__(self, other)",
                            "__eq__(self, other)", "__str__(self)"],
    ("terms", "Term"): ["__init__(self, parts)", "back(self)", "through(self, change)", "put(self, name, term)", "spelled(self, rows)",
                        "counted(self, signs, tallies)", "of_row(row)", "of_name(name)", "parse(signs, text)", "__add__(self, other)",
                        "__eq__(self, other)", "__str__(self)"],
    ("readers", "Reader"): ["__init__(self, signs, marks, first, steps)", "led(self, mark, row)", "read(self, row)", "parse(text)",
                            "__eq__(self, other)", "__str__(self)"],
    ("sights", "Sight"): ["__init__(self, signs, parts)", "begin(self)", "step(self, point, sign)", "point_of(self, row)",
                          "put_behind(self, point, other)", "points(self)", "__len__(self)", "__eq__(self, other)"],
    ("counts", "Count"): ["__init__(self, reader, adds, ends)", "led(self, mark, row)", "of(self, row)", "parse(text)",
                          "__eq__(self, other)", "__str__(self)"],
    ("sums", "Sum"): ["__init__(self, parts, number=0)", "scaled(self, factor)", "put(self, name, term)", "parse(signs, text)",
                      "__add__(self, other)", "__eq__(self, other)", "__str__(self)"],
    ("houses", "House"): ["__init__(self, signs, readers, counts=())", "reader_of(self, name)", "count_of(self, name)", "having(self, name, thing)",
                          "without(self, name)", "term(self, text)", "parse(text)", "__eq__(self, other)", "__str__(self)"],
    ("sayings", "Saying"): ["__init__(self, house, form)", "put(self, name, term)", "negated(self)", "parse(house, text)", "__eq__(self, other)",
                            "__str__(self)"],
    ("conditions", "Condition"): ["__init__(self, signs, steps, good)", "lets(self, row)", "within(self, other)", "parse(text)", "__len__(self)",
                                  "__eq__(self, other)", "__str__(self)"],
    ("rules", "Rules"): ["__init__(self, signs, pairs)", "moves(self, row)", "after(self, row, move)", "reduced(self, row)", "road(self, row)",
                         "__eq__(self, other)"],
    ("books", "Book"): ["__init__(self, house, lemmas=())", "claim_of(self, name)", "lines_of(self, name)", "having(self, name, claim, lines)",
                        "without(self, name)", "told_only(self, name)", "__len__(self)", "__eq__(self, other)"],
    ("live", "Live"): ["__init__(self, book)", "show(self, name, claim)", "take(self, name, claim)", "put(self, name, claim, lines)", "drop(self, name)",
                       "mend(self)", "undo(self)", "within(self, work)", "__len__(self)"],
    ("desk", "Desk"): ["__init__(self)", "say(self, command)"],
}

PROPERTIES = {("changes", "Change"): ["is_plain", "is_void"], ("terms", "Term"): ["names"], ("sums", "Sum"): ["names"],
              ("houses", "House"): ["names"], ("sayings", "Saying"): ["names"], ("books", "Book"): ["names"], ("live", "Live"): ["book"]}


def told(name, thing):
    return f"{name}{inspect.signature(thing)}"


class InterfaceTest(unittest.TestCase):
    def test_functions(self):
        for name, functions in FUNCTIONS.items():
            module = importlib.import_module(f"allrows.{name}")
            defined = {one.name for one in ast.parse((PACKAGE / f"{name}.py").read_text()).body if isinstance(one, ast.FunctionDef)}
            for function in functions:
                bare = function.split("(")[0]
                self.assertIn(bare, defined)
                self.assertEqual(told(bare, getattr(module, bare)), function)

    def test_classes(self):
        for (name, cls), methods in CLASSES.items():
            defined = {one.name: one for one in ast.parse((PACKAGE / f"{name}.py").read_text()).body if isinstance(one, ast.ClassDef)}
            inside = {one.name for one in defined[cls].body if isinstance(one, ast.FunctionDef)}
            made = getattr(importlib.import_module(f"allrows.{name}"), cls)
            for method in methods:
                bare = method.split("(")[0]
                self.assertIn(bare, inside)
                self.assertEqual(told(bare, getattr(made, bare)), method)
            for bare in PROPERTIES.get((name, cls), []):
                self.assertIsInstance(made.__dict__[bare], property)

    def test_package(self):
        tree = ast.parse((PACKAGE / "__init__.py").read_text())
        self.assertEqual(len(tree.body), 1)
        self.assertIsInstance(tree.body[0].value, ast.Constant)
        self.assertIsInstance(tree.body[0].value.value, str)


if __name__ == "__main__":
    unittest.main()
