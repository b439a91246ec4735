"""[33]: sums."""

import random
import unittest

from allrows.counts import Count
from allrows.errors import InvalidSum, InvalidText, NoName
from allrows.houses import House
from allrows.readers import Reader
from allrows.sums import Sum, worth
from allrows.terms import Term
from support import END, EVEN, Checks, any_values, random_house, random_term, rows_to

FLAT = Reader("ab", ["go"], "go", [["go", "go"]])
SIZE = Count(FLAT, [[1, 1]], [0])
PEAK = Count(END, [[0, 0], [0, 1]], [0, 5])
HOUSE = House("ab", [("even", EVEN)], [("size", SIZE), ("peak", PEAK)])
ROW, TWO = Term.of_name("row"), Term.of_name("two")


def random_sum(chance, signs="ab"):
    parts = [(chance.choice([-9, -1, 1, 2, 9]), chance.choice(["size", "peak"]), random_term(chance, signs)) for _ in range(chance.randint(0, 3))]
    return Sum(parts, chance.choice([0, 0, 1, -5, 10 ** 12]))


class SumTest(Checks, unittest.TestCase):
    def test_attributes(self):
        parts = [(2, "size", ROW), (-1, "peak", TWO + ROW)]
        total = Sum(parts, 3)
        parts.pop()
        self.check_same(total.parts, ((2, "size", ROW), (-1, "peak", TWO + ROW)))
        self.check_same(total.number, 3)
        self.check_same(total.names, ("row", "two"))
        self.check_same(Sum([]).number, 0)
        self.check_same(Sum(()).names, ())
        self.check_same(Sum(number=-4, parts=((1, "size", Term([])),)).names, ())

    def test_wrong_parts(self):
        good = (1, "size", ROW)
        for value in any_values():
            if not isinstance(value, (list, tuple)) or len(value) > 0:
                self.check_error(InvalidSum, lambda: Sum(value, None), word="parts")
            self.check_error(InvalidSum, lambda: Sum([good, value], None), word="parts")
        for part in ((0, "size", ROW), (True, "size", ROW), (None, "size", ROW), ("1", "size", ROW), (1, "or", ROW), (1, "s", ROW), (1, 2, ROW),
                     (1, None, ROW), (1, "size", "row"), (1, "size", None), (1, "size", ROW, 0), (1, "size"), [1, "size", ROW], (1, ["size"], ROW),
                     (1, "size", (ROW,)), good[::-1]):
            self.check_error(InvalidSum, lambda: Sum([part]), word="parts")
        self.check_error(InvalidSum, lambda: Sum(good), word="parts")

    def test_wrong_number(self):
        for value in any_values():
            if value.__class__ is not int:
                self.check_error(InvalidSum, lambda: Sum([], value), word="number")

    def test_put_together(self):
        one, other = Sum([(1, "size", ROW)], 2), Sum([(1, "size", ROW), (3, "peak", TWO)], -5)
        self.assertEqual(one + other, Sum([(1, "size", ROW), (1, "size", ROW), (3, "peak", TWO)], -3))
        self.assertEqual(Sum([]) + Sum([]), Sum([]))
        with self.assertRaises(TypeError):
            one + 1

    def test_scaled(self):
        total = Sum([(2, "size", ROW), (-1, "peak", TWO)], -5)
        self.assertEqual(total.scaled(-3), Sum([(-6, "size", ROW), (3, "peak", TWO)], 15))
        self.assertEqual(total.scaled(factor=1), total)
        self.check_same(total.scaled(0).parts, ())
        self.check_same(total.scaled(0).number, 0)

    def test_put(self):
        total = Sum([(2, "size", ROW + TWO), (-1, "peak", TWO.back())], -5)
        self.assertEqual(total.put("two", ROW + Term.of_row("ab")), Sum.parse("ab", "2 * size(row + row + 'ab') + -1 * peak('ba' + back row) + -5"))
        self.assertEqual(total.put(name="none", term=ROW), total)

    def test_equal(self):
        self.assertTrue(Sum([(1, "size", ROW)], 2) == Sum(((1, "size", ROW),), 2))
        for other in (Sum([(1, "size", ROW)], 1), Sum([(2, "size", ROW)], 2), Sum([(1, "peak", ROW)], 2), Sum([(1, "size", TWO)], 2)):
            self.assertFalse(Sum([(1, "size", ROW)], 2) == other)
        for value in any_values():
            self.assertFalse(Sum([], 2) == value)
        with self.assertRaises(TypeError):
            iter(Sum([]))


class TextTest(Checks, unittest.TestCase):
    def test_text(self):
        self.assertEqual(str(Sum([(2, "size", ROW + TWO), (-1, "peak", Term.parse("ab", "back [ab,](row) + 'a'"))], -5)),
                         "2 * size(row + two) + -1 * peak(back [ab,](row) + 'a') + -5")
        self.assertEqual((str(Sum([])), str(Sum([], 7)), str(Sum([], -7))), ("0", "7", "-7"))
        self.assertEqual(str(Sum([(1, "size", Term([]))], 0)), "1 * size('')")

    def test_round(self):
        chance = random.Random(95)
        for signs in ("a", "ab", "abc"):
            for _ in range(100):
                total = random_sum(chance, signs)
                self.assertEqual(Sum.parse(signs, str(total)), total)
        self.assertEqual(Sum.parse(text="0", signs="ab"), Sum([]))
        self.assertEqual(Sum.parse("ab", "1 * size(row) + 1 * size(row) + 1"), Sum([(1, "size", ROW)] * 2, 1))

    def test_terms_not_in_normal_form(self):
        self.assertEqual(Sum.parse("ab", "1 * size('' + row + 'a' + 'b')"), Sum([(1, "size", ROW + Term.of_row("ab"))]))

    def test_wrong_values(self):
        for value in any_values():
            self.check_error(InvalidText, lambda: Sum.parse("ab", value), at=0)

    def test_wrong_texts(self):
        good = "1 * size(row)"
        wrong = ["", " ", "+", "0 + 0", "1 + 2", good + " + 0", good + " + ", good + " +", " + " + good, "0 + " + good, "3 + " + good, good + " + 1 + 1",
                 good + " + 1 + " + good, good + " + -0", "-0", "00", "01", "+1", "1.0", "x", " 1", "1 ", "0 * size(row)", "-0 * size(row)", "01 * size(row)",
                 "+1 * size(row)", "* size(row)", " * size(row)", "size(row)", "1 size(row)", "1*size(row)", "1 *size(row)", "1 * size (row)",
                 "1 * size(row", "1 * size row)", "1 * size()", "1 * size( row)", "1 * size(row )", "1 * size(row))", "1 * size((row))", "1 * or(row)",
                 "1 * s(row)", "1 * (row)", "1 * size('c')", "1 * size(row + )", "1 * size([a](row))", "1 * size(back)", "1 * size(row) - 1",
                 "1 * size(row)+ 1", "1 * size(row) + 1 * size(row", good + "\n", "1 * 1 * size(row)", "x * size(row)", "1 * size(row) 1", "1 * size(row + 1)",
                 "\xb2", "1_0"]
        for text in wrong:
            self.check_error(InvalidText, lambda: Sum.parse("ab", text), at=0)


class WorthTest(Checks, unittest.TestCase):
    def test_worth(self):
        chance = random.Random(96)
        for _ in range(100):
            total = random_sum(chance)
            rows = {name: chance.choice(rows_to("ab", 4)) for name in ("xx", "yy", "zz")}
            told = total.number
            for factor, name, term in total.parts:
                told += factor * {"size": SIZE, "peak": PEAK}[name].of(term.spelled(rows))
            self.check_same(worth(HOUSE, total, rows), told)
        self.check_same(worth(house=HOUSE, total=Sum([]), rows={}), 0)
        self.assertEqual(worth(HOUSE, Sum.parse("ab", "2 * peak(row + two) + -1 * size(row) + 7"), {"row": "aba", "two": "ba"}), 2 * (2 + 5) - 3 + 7)

    def test_number_of_all_at_once(self):
        one, other = Sum.parse("ab", "2 * peak(row) + 1"), Sum.parse("ab", "-1 * size(row + row) + 5")
        for row in rows_to("ab", 4):
            rows = {"row": row}
            self.assertEqual(worth(HOUSE, one + other, rows), worth(HOUSE, one, rows) + worth(HOUSE, other, rows))
            self.assertEqual(worth(HOUSE, one.scaled(-4), rows), -4 * worth(HOUSE, one, rows))
            self.assertEqual(worth(HOUSE, one.put("row", ROW + ROW), rows), worth(HOUSE, one, {"row": row + row}))

    def test_no_count(self):
        total = Sum.parse("ab", "1 * size(row) + 1 * zz(row) + 1 * aa(row)")
        self.check_error(NoName, lambda: worth(HOUSE, total, {"row": ""}), name="zz")
        self.check_error(NoName, lambda: worth(House("ab", []), total, {"row": ""}), name="size")
        self.check_error(NoName, lambda: worth(house=HOUSE.without("size"), total=total, rows={"row": ""}), name="size")
        # the name of a reader is none of a count
        self.check_error(NoName, lambda: worth(HOUSE, Sum.parse("ab", "1 * size(row) + 1 * even(row)"), {"row": ""}), name="even")

    def test_random_houses(self):
        chance = random.Random(97)
        for _ in range(60):
            signs = chance.choice(("a", "ab", "abc"))
            house = random_house(chance, signs, 3, 2)
            total = random_sum(chance, signs)
            rows = {name: chance.choice(rows_to(signs, 3)) for name in ("yy", "xx", "zz", "other")}
            told = total.number
            for factor, name, term in total.parts:
                count = dict(house.counts)[name]
                row, mark = term.spelled(rows), count.reader.first
                for sign in row:
                    told += factor * count.adds[count.reader.marks.index(mark)][signs.index(sign)]
                    mark = count.reader.led(mark, sign)
                told += factor * count.ends[count.reader.marks.index(mark)]
            self.check_same(worth(house, total, rows), told)


if __name__ == "__main__":
    unittest.main()
