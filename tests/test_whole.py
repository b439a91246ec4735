"""Promises over the whole program: what is decided is the same, in whichever way it is told."""

import random
import unittest

from allrows.bases import bases
from allrows.books import Book, guilty, mended_book, untrue, whole_lines, wrong
from allrows.conditions import contrary, every
from allrows.deciding import agree, fails, holds, true_at
from allrows.deductions import deduction_of, failures, grown, mended
from allrows.desk import Desk
from allrows.hangs import tainted
from allrows.heights import at_most
from allrows.live import Live
from allrows.looker import deduction_holds
from allrows.quantless import unquantified
from allrows.roads import by_cases, follows, least_depth, patterns, split, split_holds
from allrows.rowsets import least_let
from allrows.sayings import Saying
from allrows.slopes import rows_above
from allrows.sums import worth
from allrows.trees import tree_against, tree_for, tree_for_holds
from allrows.wheres import where
from by_definition import weighings
from support import Checks, rows_of_names, small_sayings, tried
from test_roads import many_atoms


class WholeTest(Checks, unittest.TestCase):
    def check_told(self, saying, rows):
        """That a saying fails at these least rows, or holds (None), in all ways in which this is told."""
        self.assertIs(holds(saying), rows is None)
        self.check_same(fails(saying), rows)
        self.assertIs(tree_for(saying) is not None, rows is None)
        self.assertIs(tree_against(saying) is None, rows is None)
        told = deduction_of(saying)
        self.assertIs(told is not None, rows is None)
        self.check_same(failures(((saying, None),)), ((0, False, rows),))
        self.assertIs(mended(((saying, None),)) is not None, rows is None)
        book = Book(saying.house, [("told", saying, None), ("lines", saying, ((saying, ("told", "told")),)), ("wrong", saying, ((saying, None),))])
        self.assertEqual(wrong(book), ("wrong",))
        self.check_same(untrue(book), () if rows is None else tuple((name, rows) for name in book.names))
        self.assertEqual(guilty(book), None if rows is None else "told")
        self.check_same(tainted(book), () if rows is None else ("lines", "told"))
        self.assertEqual(mended_book(book).names, book.names if rows is None else ())
        live = Live(Book(saying.house))
        self.check_same(live.show("name", saying), rows)
        self.assertEqual(len(live.book), int(rows is None))
        self.check_desk(saying, rows)
        if rows is None:
            self.assertIs(deduction_holds(saying, told), True)
            self.assertIs(tree_for_holds(saying, told[0][1][1]), True)
            self.assertIs(deduction_holds(saying, whole_lines(live.book, "name")), True)

    def check_desk(self, saying, rows):
        desk = Desk()
        desk.say("house " + str(saying.house).replace("\n", " ; "))
        told = None if rows is None else " ".join(f"{name}={row or '-'}" for name, row in rows) or "always"
        self.assertEqual(desk.say(f"holds {saying}"), told or "yes")
        self.assertEqual(desk.say(f"show name {saying}"), told or "shown")
        self.assertEqual(desk.say("names"), "-" if told else "name")

    def test_sayings(self):
        for saying in small_sayings(101, 120, 30, ("xx", "yy"), 3, 2):
            failing = [rows for rows in rows_of_names(saying, 0) if not tried(saying, rows)]
            least = min(failing, key=lambda rows: (sum(map(len, rows.values())), [rows[name] for name in saying.names])) if failing else None
            self.check_told(saying, None if least is None else tuple((name, least[name]) for name in saying.names))

    def test_other_sayings(self):
        for saying in small_sayings(102, 60, 25, ("xx", "yy"), 2, 1):
            rows = fails(saying)
            plain = unquantified(saying)
            self.check_same(fails(plain), rows)
            self.assertIs(agree(plain, Saying(plain.house, ("not", plain.negated()))), True)
            for name in saying.names:
                condition = where(saying, name)
                self.assertIs(condition == every(saying.house.signs), rows is None)
                row = least_let(contrary(condition))
                self.assertIs(row is None, rows is None)
                if row is not None:
                    self.assertLessEqual(len(row), len(dict(rows)[name]) + sum(len(other) for other in dict(rows).values()))
                    self.assertIs(where(saying, name).lets(dict(rows)[name]), False)
                self.assertIs(grown(saying, name) is not None, rows is None)
            if rows is not None:
                self.assertIs(true_at(saying, dict(rows)), False)

    def test_bounds(self):
        chance = random.Random(103)
        for total, saying in weighings(chance, 60):
            for most in (-3, 0, 4):
                claim = ("bound", total, most, saying)
                is_true = at_most(total, saying, most)
                told = deduction_of(claim)
                self.assertIs(told is not None, is_true)
                rows = failures(((claim, None),))[0][2]
                self.assertEqual(rows, rows_above(total, saying, most))
                self.check_same(untrue(Book(saying.house, [("told", claim, None)])), () if is_true else (("told", rows),))
                self.check_same(Live(Book(saying.house)).show("name", claim), rows)
                if is_true:
                    self.assertIs(deduction_holds(claim, told), True)
                else:
                    self.assertTrue(tried(saying, dict(rows)) and worth(saying.house, total, dict(rows)) > most)

    def test_made_sayings(self):
        chance = random.Random(104)
        for atoms in many_atoms(104, 60):
            house = atoms[0].house
            one, other = chance.choice(atoms), chance.choice(atoms)
            saying = Saying(house, (chance.choice(("or", "if")), one, Saying(house, (chance.choice(("and", "or")), other, chance.choice(atoms))).negated()))
            is_true = holds(saying)
            self.assertIs(follows(atoms, saying), is_true)
            self.assertIs(by_cases(atoms, saying) is not None, is_true)
            self.assertIs(split(atoms, saying) is not None and split_holds(atoms, saying, split(atoms, saying)), is_true)
            self.assertIs(least_depth(atoms, saying) is not None, is_true)
            failing = [dict(rows) for _, rows in patterns(atoms) if not true_at(saying, dict(rows))]
            self.assertIs(failing == [], is_true)
            if not is_true:
                # the least rows of patterns are rows at which it fails, with as few signs as any for these names
                least = min(sum(map(len, rows.values())) for rows in failing)
                self.assertLessEqual(sum(len(row) for _, row in fails(saying)), least)
            if is_true:
                book = Book(house, [("made", saying, by_cases(atoms, saying))])
                self.assertEqual((wrong(book), untrue(book), bases(book, "made")), ((), (), ((),)))

    def test_the_same_call(self):
        for saying in small_sayings(105, 20, 20, ("xx", "yy"), 2, 1):
            for call in (fails, tree_for, tree_against, deduction_of, unquantified):
                first = call(saying)
                self.check_told(saying, fails(saying))
                self.assertEqual(call(saying), first)


if __name__ == "__main__":
    unittest.main()
