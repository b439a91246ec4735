"""[44], [45], [46], [47]: the greatest worths, and papers of heights."""

import random
import unittest

from allrows.counts import Count
from allrows.deciding import true_at
from allrows.heights import at_most, best_rows, clear, heights, heights_hold, is_constant, least, most, same_worth
from allrows.houses import House
from allrows.readers import Reader
from allrows.sayings import Saying
from allrows.sums import Sum, worth
from by_definition import is_paper, names_of, random_total, weighings, worths_met
from support import END, ODD, Checks, any_values

FLAT = Reader("ab", ["go"], "go", [["go", "go"]])
HALL = House("ab", [("last", END), ("odds", ODD)],
             [("size", Count(FLAT, [[1, 1]], [0])), ("peak", Count(END, [[0, 0], [0, 1]], [0, 0])), ("high", Count(END, [[1, -1], [0, 2]], [5, -3]))])


def summed(text):
    return Sum.parse("ab", text)


def said(text):
    return Saying.parse(HALL, text)


ANY, ENDS = said("last(row) is last(row)"), said("last(row) is yes")


class MostTest(Checks, unittest.TestCase):
    def test_told_sums(self):
        for total, saying, told in (
                ("2 * peak(row) + -1 * size(row)", ANY, (0, "endless")), ("2 * peak(row) + -1 * size(row)", ENDS, (-1, "endless")),
                ("1 * peak(row)", ENDS, ("endless", 0)), ("1 * size(row + two) + -1 * size(two + back row)", ANY, (0, 0)),
                ("1 * size(row)", said("not last(row) is last(row)"), ("none", "none")), ("0", ANY, (0, 0)), ("-7", ENDS, (-7, -7)),
                ("3", said("odds('a') is even"), ("none", "none")), ("3", said("odds('a') is odd"), (3, 3)), ("1 * size('aba') + 2", said("odds('a') is odd"), (5, 5)),
                ("1 * size(row)", said("odds('a') is even"), ("none", "none")), ("1 * size(row)", said("odds('a') is odd"), ("endless", 0)),
                ("1 * size([,](row))", ANY, (0, 0)), ("2 * size([ab,](row)) + -1 * size([aab,b](row))", ANY, ("endless", "endless")),
                ("1 * size([ab,](row)) + -1 * size([aa,](row))", ANY, (0, 0)), ("-1 * size(row) + -1 * size(two)", said("( last(row) is yes and odds(two) is odd )"),
                                                                               (-2, "endless")),
                ("-1 * size(row)", said("( last(row) is yes and odds(two + row) is odd )"), (-1, "endless")),
                ("1 * size(row)", said("for all row odds(row + row) is even"), ("endless", 0)),
                # one way about there is one peak more at most
                ("1 * peak(row) + -1 * peak(back row)", ANY, (1, -1)),
                ("1 * peak(row + 'a') + -1 * peak(row)", ANY, (0, 0)), ("1 * peak(row + 'b') + -1 * peak(row)", ANY, (1, 0)), ("1 * high(row)", ENDS, ("endless", "endless"))):
            self.check_same(most(summed(total), saying), told[0])
            self.check_same(least(summed(total), saying), told[1])
        self.check_same(most(saying=ANY, total=summed("4")), 4)
        self.check_same(least(saying=ANY, total=summed("4")), 4)

    def test_random_sums(self):
        told = {}
        for total, saying in weighings(random.Random(141), 400):
            names = names_of(total, saying)
            greatest, lowest, best = most(total, saying), least(total, saying), best_rows(total, saying)
            met = worths_met(total, saying, 5 if len(names) == 1 else 3 if len(names) == 2 else 2)
            told[greatest if isinstance(greatest, str) else "number"] = told.get(greatest if isinstance(greatest, str) else "number", 0) + 1
            self.assertEqual(greatest == "none", lowest == "none")
            if greatest == "none":
                self.assertEqual(met, [])
                self.assertIsNone(best)
                continue
            if greatest == "endless":
                self.assertIsNone(best)
            else:
                self.assertTrue(all(number <= greatest for number, _ in met))
                self.check_same([name for name, _ in best], names)
                self.check_same(best, tuple((name, row) for name, row in best))
                self.assertIs(true_at(saying, dict(best)), True)
                self.assertEqual(worth(saying.house, total, dict(best)), greatest)
            if lowest != "endless":
                self.assertTrue(all(number >= lowest for number, _ in met))
            self.assertEqual(least(total.scaled(-1), saying), greatest if isinstance(greatest, str) else -greatest)
        self.assertGreater(min(told.values()), 15)
        self.assertEqual(len(told), 3)

    def test_rows_that_look_like_names(self):
        flat = Reader("x", ["go"], "go", [["go"]])
        house = House("x", [("flat", flat)], [("size", Count(flat, [[1]], [0]))])
        for text, told in (("-1 * size('xx' + back xx)", -2), ("-1 * size('xx' + yy)", -2)):
            total, saying = Sum.parse("x", text), Saying.parse(house, "flat('xx' + xx) is go")
            self.check_same(most(total, saying), told)
            self.assertIs(heights_hold(total, saying, told, heights(total, saying, told)), True)

    def test_random_sums_further(self):
        # a greatest worth, if there is one, is had by rows not much longer than there are posts; with few marks three signs tell it
        told = []
        for total, saying in weighings(random.Random(142), 120, names=("xx",), posts=12):
            if len(names_of(total, saying)) > 1:
                continue
            met = worths_met(total, saying, 8 if saying.house.signs == "ab" else 24)
            greatest = most(total, saying)
            if greatest == "none":
                self.assertEqual(met, [])
            elif greatest == "endless":
                told.append(greatest)
                shorter = worths_met(total, saying, 4 if saying.house.signs == "ab" else 18)
                self.assertGreater(max(number for number, _ in met), max([number for number, _ in shorter], default=-10 ** 9))
            else:
                self.assertEqual(max(number for number, _ in met), greatest)
        self.assertGreater(len(told), 5)

    def test_best_rows(self):
        self.assertIn(best_rows(summed("2 * peak(row) + -1 * size(row)"), ENDS), ((("row", "a"),), (("row", "aba"),)))
        self.check_same(best_rows(summed("-1 * size(row)"), ENDS), (("row", "a"),))
        self.check_same(best_rows(summed("3"), said("odds('a') is odd")), ())
        self.assertIsNone(best_rows(summed("3"), said("odds('a') is even")))
        self.assertIsNone(best_rows(total=summed("1 * size(row)"), saying=ANY))
        told = dict(best_rows(summed("-1 * size(row) + 1 * peak('a' + row)"), said("( odds(one) is odd and ( last(row) is yes and last(zz) is yes ) )")))
        self.assertEqual(sorted(told), ["one", "row", "zz"])
        self.assertEqual(told["row"].count("b") > 0, len(told["row"]) > 1)

    def test_clear_and_constant(self):
        for total, saying, told, constant in (("1 * size(row + two) + -1 * size(two + back row)", ANY, 0, True), ("1 * size(row)", ANY, None, False),
                                              ("1 * size(row)", said("odds('a') is even"), None, True), ("-1 * peak(row)", ENDS, None, False),
                                              ("1 * peak(row + 'a') + -1 * peak(row) + 9", ENDS, 9, True), ("1 * peak(row + 'b') + -1 * peak(row)", ANY, None, False),
                                              ("1 * peak(row + 'b') + -1 * peak(row)", ENDS, 1, True), ("-3", ANY, -3, True),
                                              ("1 * size([,](row) + 'aa')", ANY, 2, True)):
            self.check_same(clear(summed(total), saying), told)
            self.assertIs(is_constant(summed(total), saying), constant)
        self.check_same(clear(saying=ANY, total=summed("4")), 4)
        self.assertIs(is_constant(saying=ANY, total=summed("4")), True)

    def test_clear_of_random_sums(self):
        for total, saying in weighings(random.Random(143), 150, most=12):
            worths = sorted({number for number, _ in worths_met(total, saying, 3)})
            told = clear(total, saying)
            if told is not None:
                self.assertEqual(worths, [told])
            if len(worths) != 1:
                self.assertIsNone(told)
            self.assertIs(is_constant(total, saying), most(total, saying) == "none" or told is not None)
            if is_constant(total, saying):
                self.assertLessEqual(len(worths), 1)
            self.assertIs(clear(total + total.scaled(-1), saying) == 0, most(total, saying) != "none")

    def test_same_worth(self):
        for one, other, saying, told in (("1 * size(row)", "1 * size(back row)", ANY, True), ("1 * size(row)", "1 * size(row) + 1", ANY, False),
                                         ("1 * peak(row + 'b')", "1 * peak(row) + 1", ENDS, True), ("1 * peak(row + 'b')", "1 * peak(row) + 1", ANY, False),
                                         ("1 * size(row)", "1 * size(two)", ANY, False), ("1 * size(row)", "1 * size(two)", said("not odds(row) is odds(row)"), True),
                                         ("1 * size(row + two)", "1 * size(two) + 1 * size(row)", ANY, True), ("0", "0", ANY, True), ("0", "1", ANY, False)):
            self.assertIs(same_worth(summed(one), summed(other), saying), told)
            self.assertIs(same_worth(saying=saying, other=summed(one), one=summed(other)), told)

    def test_same_worth_of_random_sums(self):
        chance = random.Random(144)
        for total, saying in weighings(chance, 150, most=8):
            other = random_total(chance, saying.house.signs, ("xx",), 1)
            met = worths_met(total + other, saying, 2)
            told = same_worth(total, other, saying)
            if told:
                self.assertTrue(all(worth(saying.house, total, rows) == worth(saying.house, other, rows) for _, rows in met))
            self.assertIs(told, most(total + other.scaled(-1), saying) == "none" or clear(other + total.scaled(-1), saying) == 0)
            self.assertIs(same_worth(total, total, saying), True)

    def test_at_most(self):
        for total, saying, told in (("2 * peak(row) + -1 * size(row)", ENDS, -1), ("5", ANY, 5), ("1 * peak(row + 'b') + -1 * peak(row)", ANY, 1)):
            for bound in range(told - 3, told + 4):
                self.assertIs(at_most(summed(total), saying, bound), bound >= told)
        for bound in (-10 ** 12, 0, 10 ** 12):
            self.assertIs(at_most(summed("1 * size(row)"), ANY, bound), False)
            self.assertIs(at_most(bound=bound, saying=said("not odds(row) is odds(row)"), total=summed("1 * size(row)")), True)


class HeightsTest(Checks, unittest.TestCase):
    def test_told_paper(self):
        total = summed("-1 * size(row) + 4")
        saying = said("odds(row) is odd")
        even, turn = (("even", "odd"), ("go",)), (("odd", "even"), ("go",))
        paper = (("row", ((even, ("go",), 0), (turn, ("go",), -1))),)
        (name, table), = heights(total, saying, 3)
        self.assertEqual((name, sorted(table)), ("row", sorted(paper[0][1])))
        self.assertIs(heights_hold(total, saying, 3, paper), True)
        self.assertIs(heights_hold(value=paper, bound=4, saying=saying, total=total), True)
        self.assertIs(heights_hold(total, saying, 2, paper), False)
        self.assertIsNone(heights(total, saying, 2))
        for table, told in ((((turn, ("go",), -1), (even, ("go",), 0)), True), (((even, ("go",), 0), (turn, ("go",), -2)), False),
                            (((even, ("go",), 1), (turn, ("go",), 0)), False), (((even, ("go",), -1), (turn, ("go",), -1)), False),
                            (((even, ("go",), None), (turn, ("go",), None)), False), (((even, ("go",), 0), (turn, ("go",), None)), False),
                            (((even, ("go",), 0),), False), (((turn, ("go",), -1),), False), ((), False),
                            (((even, ("go",), 0), (turn, ("go",), -1), (turn, ("go",), -1)), False), (((even, ("go",), 0), (turn, ("go",), -1), (even, ("go",), 0)), False),
                            ([(even, ("go",), 0), (turn, ("go",), -1)], False), (((even, ("go",), 0), [turn, ("go",), -1]), False),
                            (((even, ("go",), False), (turn, ("go",), -1)), False), (((even, ("go",), 0), (turn, ("go",), "x")), False),
                            (((even, ["go"], 0), (turn, ("go",), -1)), False), (((even, ("no",), 0), (turn, ("go",), -1)), False),
                            (((even, (), 0), (turn, (), -1)), False), (((even, ("go", "go"), 0), (turn, ("go", "go"), -1)), False),
                            (((even[:1], ("go",), 0), (turn[:1], ("go",), -1)), False), (((list(even), ("go",), 0), (turn, ("go",), -1)), False),
                            (((even, ("go",), 0), (turn, ("go",), -1), ((("odd", "odd"), ("go",)), ("go",), None)), False),
                            # points that are not come to
                            (((even, ("go",), 0), (turn, ("go",), -1), ((("odd", "odd"), ("go",)), ("go",), -9), ((("even", "even"), ("go",)), ("go",), -8)), True),
                            (((even, ("go",), 0), (turn, ("go",), -1), ((("odd", "odd"), ("go",)), ("go",), 0), ((("even", "even"), ("go",)), ("go",), 1)), False),
                            (((even, ("go",), 0), (turn, ("go",), -1), ((("odd", "odd"), ("go",)), ("go",), None), ((("even", "even"), ("go",)), ("go",), None)), False),
                            (((even, ("go",), 0), (turn, ("go",), -1), ((("even", "none"), ("go",)), ("go",), 0)), False)):
            self.assertIs(heights_hold(total, saying, 3, (("row", table),)), told)
        for value in ((), paper + paper, (("two", paper[0][1]),), [paper[0]], (list(paper[0]),), (("row", paper[0][1], 0),), (("row",),), paper[0], (("row", None),)):
            self.assertIs(heights_hold(total, saying, 3, value), False)
        # higher than need be, as far as the bound goes
        self.assertIs(heights_hold(total, saying, 5, (("row", ((even, ("go",), 2), (turn, ("go",), 1))),)), True)
        self.assertIs(heights_hold(total, saying, 4, (("row", ((even, ("go",), 2), (turn, ("go",), 1))),)), False)

    def test_any_values(self):
        total, saying = summed("-1 * size(row)"), said("odds(row) is odd")
        paper = heights(total, saying, -1)
        (name, table), = paper
        for value in any_values():
            self.assertIs(heights_hold(total, saying, 0, value), False)
            self.assertIs(heights_hold(total, saying, 0, (value,)), False)
            self.assertIs(heights_hold(total, saying, 0, (("row", value),)), False)
            self.assertIs(heights_hold(total, saying, 0, ((value, table),)), False)
            self.assertIs(heights_hold(total, saying, 0, (("row", table + (value,)),)), False)
            for triple in ((value, table[0][1], 0), (table[0][0], value, 0)):
                self.assertIs(heights_hold(total, saying, 0, (("row", (triple,) + table[1:]),)), False)
            kept = value is None or value.__class__ is int
            if not kept:
                self.assertIs(heights_hold(total, saying, 0, (("row", ((table[0][0], table[0][1], value),) + table[1:]),)), False)

    def test_further_rows_of_tables(self):
        # a paper that holds, with one row more that is none, or stands there already
        total, saying = summed("1 * peak(row) + -1 * peak(back row)"), said("last(row) is last(row)")
        (name, table), = heights(total, saying, 3)
        point, entering, height = table[-1]
        for row in (table[-1], (point, entering, 99), [point, entering, height], (point, entering), (point, entering, height, 0), (point, entering[:1], height),
                    (point, entering + entering, height), (point, list(entering), height), (point, ("no", "none"), height), (point, (0, "no"), height),
                    (point, (["no"], "no"), height), (point, None, height), (point, (), height), (list(point), entering, height), (point[:1], entering, height),
                    (point + point, entering, height), (None, entering, height), ((), entering, height), (point, entering, True), (point, entering, "0"),
                    ((["no", "yes"],) + point[1:], entering, height), ((("no",),) + point[1:], entering, height)):
            self.assertIs(heights_hold(total, saying, 3, (("row", table + (row,)),)), False, row)
            self.assertIs(heights_hold(total, saying, 3, (("row", (row,) + table),)), False, row)
        # in another order, and with a post that no row has, led to by none
        self.assertIs(heights_hold(total, saying, 3, (("row", table[::-1]),)), True)

    def test_without_names(self):
        for bound in (2, 3, 4):
            self.check_same(heights(summed("3"), said("odds('a') is odd"), bound), () if bound >= 3 else None)
            self.assertIs(heights_hold(summed("3"), said("odds('a') is odd"), bound, ()), bound >= 3)
            self.assertIs(heights_hold(summed("3"), said("odds('a') is even"), bound, ()), True)
        self.assertIs(heights_hold(summed("3"), said("odds('a') is odd"), 3, (("row", ()),)), False)
        self.assertIs(heights_hold(summed("3"), said("odds('a') is odd"), 3, []), False)

    def test_sums_without_parts(self):
        saying = said("( odds(row) is odd and last(two) is yes )")
        paper = heights(summed("3"), saying, 3)
        self.assertEqual([name for name, _ in paper], ["row", "two"])
        self.assertEqual([sorted(height for _, _, height in table) for _, table in paper], [[0, 0], [0, 0, 0]])
        self.assertIs(heights_hold(summed("3"), saying, 3, paper), True)
        self.assertIs(heights_hold(summed("3"), saying, 2, paper), False)
        higher = (("row", tuple((point, entering, 1) for point, entering, _ in paper[0][1])), paper[1])
        self.assertIs(heights_hold(summed("3"), saying, 3, higher), False)
        self.assertIs(heights_hold(summed("3"), saying, 4, higher), True)
        self.assertIsNone(heights(summed("3"), saying, 2))

    def test_nothing_is_met(self):
        saying = said("not odds(row) is odds(row)")
        paper = heights(summed("1 * size(row)"), saying, -10 ** 9)
        self.assertTrue(all(height is None for _, _, height in paper[0][1]))
        self.assertIs(heights_hold(summed("1 * size(row)"), saying, -10 ** 9, paper), True)

    def test_random_papers(self):
        count = 0
        for total, saying in weighings(random.Random(145), 200, most=12, posts=60):
            greatest = most(total, saying)
            bounds = (-100, 0, 100) if isinstance(greatest, str) else (greatest - 1, greatest, greatest + 2)
            for bound in bounds:
                paper = heights(total, saying, bound)
                self.assertEqual(paper is None, not at_most(total, saying, bound))
                self.assertEqual(paper is None, greatest != "none" and (greatest == "endless" or bound < greatest))
                if paper is not None:
                    count += 1
                    self.assertTrue(is_paper(total, saying, paper, bound=bound))
                    self.assertIs(heights_hold(total, saying, bound, paper), True)
                    if greatest != "none":
                        self.assertIs(heights_hold(total, saying, greatest - 1, paper), False)
        self.assertGreater(count, 50)

    def test_spoilt_papers(self):
        chance = random.Random(146)
        told = []
        for total, saying in weighings(chance, 300, most=8, posts=30):
            greatest = most(total, saying)
            if isinstance(greatest, int):
                paper = heights(total, saying, greatest)
                for _ in range(10):
                    value = spoilt(chance, paper)
                    bound = greatest + chance.choice((0, 0, 1, 3))
                    told.append(is_paper(total, saying, value, bound=bound))
                    self.assertIs(heights_hold(total, saying, bound, value), told[-1])
        self.assertGreater(told.count(True), 30)
        self.assertGreater(told.count(False), 100)


def spoilt(chance, paper):
    """A paper with some things left out, put in, repeated or changed."""
    if not paper:
        return (("xx", ()),)
    at = chance.randrange(len(paper))
    name, table = paper[at]
    table = list(table)
    place = chance.randrange(len(table))
    point, entering, height = table[place]
    way = chance.randrange(6)
    if way == 0:
        table.pop(place)
    elif way == 1:
        table.append(table[place])
    elif way == 2:
        table[place] = (point, entering, chance.choice((height, None, 0)))
    elif way == 3:
        table[place] = (point, entering, (0 if height is None else height) + chance.choice((-1, 1, 5)))
    elif way == 4:
        chance.shuffle(table)
        table = [(one, other, None if own is None else own + 1) for one, other, own in table]
    else:
        other = tuple(chance.choice([told[part] for told, _, _ in table]) for part in range(len(point)))
        table.append((other, entering, chance.choice((None, 0, -5))))
    return paper[:at] + ((name, tuple(table)),) + paper[at + 1:]


if __name__ == "__main__":
    unittest.main()
