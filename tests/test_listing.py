"""[19] (and [21]): the rows of a lot."""

import unittest

from allrows.errors import InvalidLot, InvalidRow
from allrows.listing import how_many, least_row, longest, place_of, ring_holds, ring_of, row_at
from allrows.readers import Reader
from support import (END, EVEN, LAST, LOOSE_END, ONE_MARK, ONE_SIGN, Checks, any_values, readers_with_lots, rows_to)

# reads just the rows "", "a", "ab" into all lots without `out`
SHORT = Reader("ab", ["none", "one", "two", "out"], "none", [["one", "out"], ["out", "two"], ["out", "out"], ["out", "out"]])


class ListingTest(Checks, unittest.TestCase):
    def test_no_lots(self):
        calls = [lambda lot: least_row(EVEN, lot), lambda lot: how_many(EVEN, lot, 3), lambda lot: row_at(EVEN, lot, 3),
                 lambda lot: place_of(EVEN, lot, None), lambda lot: longest(EVEN, lot), lambda lot: ring_of(EVEN, lot),
                 lambda lot: ring_holds(EVEN, lot, None)]
        for call in calls:
            for value in any_values() + ["ev", ["ev", "ev"], ["so"], ["ev", None]]:
                if value != [] and value != ():
                    self.check_error(InvalidLot, lambda: call(value))

    def test_by_listing(self):
        for reader, lot in readers_with_lots(41, 200):
            length = 6 if len(reader.signs) < 3 else 5
            rows = rows_to(reader.signs, length)
            found = [row for row in rows if reader.read(row) in lot]
            self.assertEqual(least_row(reader, lot), found[0] if found else None)
            for long in range(length + 1):
                self.assertEqual(how_many(reader, lot, long), len([row for row in found if len(row) == long]))
            for number, row in enumerate(found):
                self.assertEqual(row_at(reader, lot, number), row)
            for row in rows:
                self.assertEqual(place_of(reader, lot, row), found.index(row) if row in found else None)

    def test_empty_lots(self):
        for lot in ([], ()):
            self.assertIsNone(least_row(EVEN, lot))
            self.assertEqual((how_many(EVEN, lot, 0), how_many(EVEN, lot, 200)), (0, 0))
            self.assertEqual((row_at(EVEN, lot, 0), row_at(EVEN, lot, 10 ** 12)), (None, None))
            self.assertIsNone(place_of(EVEN, lot, "ab"))
            self.assertEqual((longest(EVEN, lot), ring_of(EVEN, lot)), (None, None))
            self.assertIs(ring_holds(EVEN, lot, ("", "b", "")), False)

    def test_no_row_in_a_lot(self):
        self.assertEqual((least_row(LOOSE_END, ["dd"]), how_many(LOOSE_END, ["dd"], 7), longest(LOOSE_END, ["dd"])), (None, 0, None))
        self.assertEqual((row_at(LOOSE_END, ["dd"], 0), ring_of(LOOSE_END, ["dd"]), place_of(LOOSE_END, ["dd"], "a")), (None,) * 3)
        self.assertIs(ring_holds(LOOSE_END, ["dd"], ("a", "a", "")), False)

    def test_great_lengths_and_numbers(self):
        self.assertEqual(how_many(reader=EVEN, lot=["od"], length=200), 2 ** 199)
        self.assertEqual(how_many(ONE_MARK, ["it"], 200), 2 ** 200)
        self.assertEqual(row_at(reader=ONE_SIGN, lot=["cc"], number=99), "x" * 200)
        self.assertEqual(place_of(reader=ONE_SIGN, lot=["cc"], row="x" * 200), 99)
        for number in (0, 1, 10 ** 6, 10 ** 12 - 1, 10 ** 12):
            for reader, lot in ((EVEN, ["od"]), (LAST, ["yes"]), (LAST, ["so", "no"]), (ONE_MARK, ["it"])):
                row = row_at(reader, lot, number)
                self.assertEqual(place_of(reader, lot, row), number)
        self.assertEqual(row_at(ONE_MARK, ["it"], 2 ** 40 - 1), "a" * 40)
        self.assertEqual(row_at(ONE_MARK, ["it"], 2 ** 40 - 2), "b" * 39)
        self.assertEqual(place_of(ONE_MARK, ["it"], "b" * 60), 2 ** 61 - 2)

    def test_rows_that_are_few(self):
        rows = ["", "a", "ab"]
        self.assertEqual([row_at(SHORT, ["none", "one", "two"], number) for number in range(3)], rows)
        self.assertIsNone(row_at(SHORT, ["none", "one", "two"], 3))
        self.assertIsNone(row_at(SHORT, ["none", "one", "two"], 10 ** 12))
        self.assertEqual((row_at(SHORT, ["two"], 0), row_at(SHORT, ["two"], 1)), ("ab", None))
        self.assertEqual([longest(SHORT, [mark]) for mark in SHORT.marks], [0, 1, 2, "endless"])
        self.assertEqual(longest(SHORT, ["none", "one"]), 1)
        self.assertEqual(row_at(SHORT, ["out"], 0), "b")

    def test_place_of_no_row(self):
        for value in any_values() + ["abc", "A", "a b", ["a"]]:
            if isinstance(value, str) and all(sign in "ab" for sign in value):
                self.assertIs(place_of(EVEN, ["ev", "od"], value).__class__, int)
            else:
                self.check_error(InvalidRow, lambda: place_of(EVEN, [], value))

    def test_longest(self):
        for reader, lot in readers_with_lots(42, 200):
            lengths = [len(row) for row in rows_to(reader.signs, 2 * len(reader.marks) - 1 if len(reader.signs) < 3 else 7)
                       if reader.read(row) in lot]
            told = longest(reader=reader, lot=lot)
            if not lengths:
                self.assertIsNone(told)
            elif max(lengths) >= len(reader.marks):
                self.assertEqual(told, "endless")
            else:
                self.check_same(told, max(lengths))

    def test_ring_exactly_if_endless(self):
        kinds = {None: 0, "endless": 0}
        for reader, lot in readers_with_lots(43, 200):
            ring = ring_of(reader=reader, lot=lot)
            self.assertEqual(ring is not None, longest(reader, lot) == "endless")
            kinds["endless" if ring is not None else None] += 1
            if ring is not None:
                self.assertIs(ring_holds(reader, lot, ring), True)
                self.assertNotEqual(ring[1], "")
                for times in range(4):
                    self.assertIn(reader.read(ring[0] + ring[1] * times + ring[2]), lot)
        self.assertTrue(min(kinds.values()) > 20)

    def test_ring_holds(self):
        self.assertIs(ring_holds(EVEN, ["od"], ("a", "b", "")), True)
        self.assertIs(ring_holds(EVEN, ["od"], ("", "aa", "ba")), True)
        self.assertIs(ring_holds(reader=EVEN, lot=["od"], value=("a" * 60, "ab" * 30, "a")), True)
        for spoilt in (("a", "", ""), ("a", "a", ""), ("a", "b", "a"), ["a", "b", ""], ("a", "b"), ("a", "b", "", ""), ("a", "c", ""),
                       ("ac", "b", ""), ("a", "b", "c"), (("a",), "b", ""), "abb"):
            self.assertIs(ring_holds(EVEN, ["od"], spoilt), False)
        for value in any_values():
            self.assertIs(ring_holds(EVEN, ["od"], value), False)
            for ring in ((value, "b", ""), ("a", value, ""), ("a", "b", value)):
                told = all(isinstance(row, str) and all(sign in "ab" for sign in row) for row in ring) and ring[1] != ""
                told = told and EVEN.read(ring[1]) == "ev" and EVEN.read(ring[0] + ring[2]) == "od"
                self.assertIs(ring_holds(EVEN, ["od"], ring), told)

    def test_least_row_told(self):
        self.assertEqual(least_row(reader=END, lot=["yes"]), "a")
        self.assertEqual(least_row(LAST, ["so"]), "b")
        self.assertEqual(least_row(LAST, ["no", "so"]), "")


if __name__ == "__main__":
    unittest.main()
