"""[44] to [49]: many small questions of one house, all answered as rows tell that are tried one by one."""

import random
import unittest
from fractions import Fraction

from allrows.counts import Count
from allrows.heights import at_most, best_rows, clear, heights, heights_hold, is_constant, least, most, same_worth
from allrows.houses import House
from allrows.readers import Reader
from allrows.sayings import Saying
from allrows.slopes import rate, ring, ring_holds, rows_above, slopes, slopes_hold
from allrows.sums import Sum, worth
from by_definition import is_paper, random_total, worths_met
from support import Checks, tried
from test_slopes import is_ring

FLAT = Reader("ab", ["go"], "go", [["go", "go"]])
LAST = Reader("ab", ["no", "yes"], "no", [["yes", "no"], ["yes", "no"]])
HOUSE = House("ab", [("last", LAST)], [("size", Count(FLAT, [[1, 1]], [0])), ("peak", Count(LAST, [[0, 0], [0, 1]], [0, 0])),
                                       ("tide", Count(FLAT, [[1, -1]], [0]))])
ANY, ENDS, NEVER = "last(row) is last(row)", "last(row) is yes", "( last(row) is yes and last(row) is no )"
# the greatest and the least worth, and the rate
TOLD = {
    ("1 * size(row + two) + -1 * size(two + back row)", ANY): (0, 0, (0, 1)),
    ("1 * peak(row) + -1 * peak(back row)", ANY): (1, -1, (0, 1)),
    ("1 * peak(row) + -1 * peak(back [b,a](row))", ANY): (0, 0, (0, 1)),
    ("2 * peak(row) + -1 * size(row)", ANY): (0, "endless", (0, 1)),
    ("1 * peak(row + row) + -2 * peak(row)", ANY): (1, 0, (0, 1)),
    ("1 * size(row) + -3", NEVER): ("none", "none", None),
    ("1 * size(row) + -3", ANY): ("endless", -3, (1, 1)),
    ("2 * peak(row) + -1 * size(row)", ENDS): (-1, "endless", (0, 1)),
    ("1 * tide(row)", ENDS): ("endless", "endless", (1, 1)),
    ("1 * tide(row + back row) + -2 * tide(row)", ENDS): (0, 0, (0, 1)),
    ("1 * tide(row) + 1 * tide([b,a](row)) + 4", ENDS): (4, 4, (0, 1)),
    ("3 * peak(row) + -1 * size(row)", ANY): ("endless", "endless", (1, 2)),
    ("5", "last('a') is yes"): (5, 5, None),
    ("5", "last('b') is yes"): ("none", "none", None),
}


def asked(total, saying):
    return Sum.parse("ab", total), Saying.parse(HOUSE, saying)


class SmallQuestionsTest(Checks, unittest.TestCase):
    def check_answers(self, total, saying, greatest, smallest):
        """All answers that hang on the greatest and the least worth."""
        self.check_same((most(total, saying), least(total, saying)), (greatest, smallest))
        is_one = greatest == smallest and not isinstance(greatest, str)
        self.check_same(clear(total, saying), greatest if is_one else None)
        self.assertIs(is_constant(total, saying), is_one or greatest == "none")
        for other in (Sum([], 0), Sum([], -3), total, total + Sum([], 1)):
            rest = total + other.scaled(-1)
            self.assertIs(same_worth(total, other, saying), clear(rest, saying) == 0 or greatest == "none")
        best = best_rows(total, saying)
        self.assertIs(best is None, isinstance(greatest, str))
        if best is not None:
            self.assertTrue(tried(saying, dict(best)))
            self.assertEqual(worth(HOUSE, total, dict(best)), greatest)
        for bound in (-4, -1, 0, 1, 3, 40):
            is_within = greatest == "none" or (greatest != "endless" and greatest <= bound)
            self.assertIs(at_most(total, saying, bound), is_within)
            paper, rows = heights(total, saying, bound), rows_above(total, saying, bound)
            self.assertEqual((paper is not None, rows is None), (is_within, is_within))
            if is_within:
                self.assertIs(heights_hold(total, saying, bound, paper), True)
                self.assertTrue(is_paper(total, saying, paper, (0, 1), bound))
                if greatest != "none":
                    self.assertIs(heights_hold(total, saying, greatest - 1, paper), False)
            else:
                self.assertTrue(tried(saying, dict(rows)))
                self.assertGreater(worth(HOUSE, total, dict(rows)), bound)
        found = ring(total, saying)
        self.assertIs(found is not None, greatest == "endless")
        if found is not None:
            self.assertIs(ring_holds(total, saying, found), True)
            self.assertTrue(is_ring(total, saying, found))

    def check_rate(self, total, saying, told):
        self.check_same(rate(total, saying), told)
        for slope in ((-1, 1), (0, 1), (1, 3), (1, 2), (1, 1), (5, 2)):
            paper = slopes(total, saying, slope)
            self.assertIs(paper is not None, told is None or Fraction(*slope) >= Fraction(*told))
            if paper is not None:
                self.assertIs(slopes_hold(total, saying, slope, paper), True)
                self.assertTrue(is_paper(total, saying, paper, slope))

    def test_told_answers(self):
        for (text, words), (greatest, smallest, told) in TOLD.items():
            total, saying = asked(text, words)
            self.check_answers(total, saying, greatest, smallest)
            self.check_rate(total, saying, told)

    def test_told_answers_by_trying(self):
        for (text, words), (greatest, smallest, _) in TOLD.items():
            total, saying = asked(text, words)
            worths = [number for number, _ in worths_met(total, saying, 5)]
            self.assertIs(worths == [], greatest == "none")
            if not isinstance(greatest, str):
                self.assertEqual(max(worths), greatest)
            if not isinstance(smallest, str):
                self.assertEqual(min(worths), smallest)

    def test_other_sums(self):
        chance = random.Random(44)
        for _ in range(150):
            total = random_total(chance, "ab", ("row",))
            saying = Saying.parse(HOUSE, chance.choice([ANY, ENDS, NEVER, "last(row + 'b' + row) is no", "for some two last(two + row) is last(row)"]))
            worths = [number for number, _ in worths_met(total, saying, 7)]
            greatest = most(total, saying)
            smallest = least(total, saying)
            self.assertIs(greatest == "none", worths == [])
            # the greatest and the least worth stand at short rows already; rings show that there are none
            if not isinstance(greatest, str):
                self.assertEqual(max(worths), greatest)
            if not isinstance(smallest, str):
                self.assertEqual(min(worths), smallest)
            self.check_answers(total, saying, greatest, smallest)


if __name__ == "__main__":
    unittest.main()
