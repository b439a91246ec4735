"""[48], [49], and rows_above of [44]: rings, rates and slope papers."""

import random
import unittest

from allrows.counts import Count
from allrows.deciding import true_at
from allrows.heights import heights, most
from allrows.houses import House
from allrows.readers import Reader
from allrows.sayings import Saying
from allrows.slopes import rate, ring, ring_holds, rows_above, slopes, slopes_hold
from allrows.sums import Sum, worth
from allrows.terms import Term
from by_definition import came_of, is_paper, names_of, occurrences, sight_for, true_entering, weighings, worths_met
from support import Checks, any_values, rows_to, tried
from test_heights import ANY, ENDS, HALL, said, spoilt, summed

PEAK, SIZE = summed("1 * peak(row)"), summed("1 * size(row)")


def with_lengths(saying):
    """The saying in a house that can count signs, and the sum that counts those of all its names."""
    flat = Reader(saying.house.signs, ["go"], "go", [["go"] * len(saying.house.signs)])
    house = saying.house.having("signs", Count(flat, [[1] * len(saying.house.signs)], [0]))
    return Saying.parse(house, str(saying))


def lengths_of(names):
    return Sum([(1, "signs", Term.of_name(name)) for name in names])


def is_ring(total, saying, value):
    """[48], word by word, for a value of the right form."""
    name, ahead, middle, behind, others = value
    rows = {**dict(others), name: ahead + middle + behind}
    points = {own: sight_for(total, saying, own).point_of(row) for own, row in rows.items()}
    sight = sight_for(total, saying, name)
    entering = true_entering(total, saying, points)[0][name]
    told = occurrences(total, saying, name)
    for sign in reversed(behind):
        entering = came_of(told, entering, sign)
    again = entering
    for sign in reversed(middle):
        again = came_of(told, again, sign)
    twice = {**rows, name: ahead + middle + middle + behind}
    return (tried(saying, rows) and sight.point_of(ahead) == sight.point_of(ahead + middle) and again == entering
            and worth(saying.house, total, twice) > worth(saying.house, total, rows))


class RingTest(Checks, unittest.TestCase):
    def test_told_rings(self):
        for value, told in ((("row", "b", "ab", "", ()), True), (("row", "a", "ba", "", ()), True), (("row", "b", "ab", "b", ()), True),
                            (("row", "", "ab", "", ()), False), (("row", "b", "a", "", ()), False), (("row", "b", "b", "", ()), False),
                            (("row", "b", "abab", "aab", ()), True), (("row", "b", "", "ab", ()), False), (("two", "b", "ab", "", ()), False),
                            (("row", "b", "ab", "", (("row", ""),)), False), (("two", "b", "ab", "", (("row", ""),)), False), (("row", "b", "ab", "", (("two", ""),)), False), (("row", "b", "ac", "", ()), False),
                            (("row", "b", "ab", ""), False), (("row", "b", "ab", "", (), ()), False), (["row", "b", "ab", "", ()], False),
                            (("row", "b", "ab", "", []), False), (("row", ["b"], "ab", "", ()), False), (("row", "b", "ab", None, ()), False)):
            self.assertIs(ring_holds(PEAK, ANY, value), told)
        # rows that are not met
        self.assertIs(ring_holds(PEAK, ENDS, ("row", "b", "ab", "", ())), False)
        self.assertIs(ring_holds(PEAK, ENDS, ("row", "b", "ab", "a", ())), True)
        self.assertIs(ring_holds(value=("row", "b", "ab", "aa", ()), saying=ENDS, total=PEAK), True)
        # the middle lowers it, or leaves it
        self.assertIs(ring_holds(summed("-1 * size(row)"), ANY, ("row", "b", "ab", "", ())), False)
        self.assertIs(ring_holds(summed("2 * size(row) + -4 * peak(row)"), ANY, ("row", "b", "ab", "", ())), False)

    def test_other_names(self):
        total, saying = summed("1 * size(one) + 1 * size(two)"), said("( last(one) is yes and odds(three) is odd )")
        for value, told in ((("two", "", "a", "", (("one", "a"), ("three", "a"))), True), (("two", "", "a", "", (("one", ""), ("three", "a"))), False),
                            (("one", "a", "a", "", (("three", "ab"), ("two", ""))), True), (("one", "a", "a", "", (("two", ""), ("three", "ab"))), False),
                            (("one", "a", "a", "", (("three", "ab"),)), False), (("one", "a", "a", "", (("three", "ab"), ("two", ""), ("zz", ""))), False),
                            (("one", "a", "a", "", (("three", "ab"), ["two", ""])), False), (("one", "a", "a", "", (("three", "ab"), ("two", "c"))), False),
                            (("one", "a", "a", "", (("three", "ab"), ("two", "", ""))), False), (("three", "", "aa", "a", (("one", "a"), ("two", ""))), False)):
            self.assertIs(ring_holds(total, saying, value), told)
        name, ahead, middle, behind, others = ring(total, saying)
        self.assertEqual(sorted([name] + [own for own, _ in others]), ["one", "three", "two"])

    def test_entering_comes_again(self):
        # the part is turned about: each further sign turns the mark at which the others are entered
        turning = Reader("ab", ["even", "odd"], "even", [["odd", "odd"], ["even", "even"]])
        house = House("ab", [("turns", turning)], [("twos", Count(turning, [[0, 0], [1, 1]], [0, 0]))])
        total, saying = Sum.parse("ab", "1 * twos(back row)"), Saying.parse(house, "turns(row) is turns(row)")
        self.assertIs(ring_holds(total, saying, ("row", "", "ab", "", ())), True)
        self.assertIs(ring_holds(total, saying, ("row", "", "a", "b", ())), False)
        self.assertIs(ring_holds(total, saying, ring(total, saying)), True)

    def test_whole_row_behind(self):
        # read backwards, b leads to the second mark, a to the third one, and only there a adds and stays
        marks = ["ma", "mb", "mc"]
        reader = Reader("abc", marks, "ma", [["mb", "mb", "ma"], ["mc", "mb", "ma"], ["mc", "ma", "ma"]])
        house = House("abc", [("one", reader)], [("size", Count(reader, [[0, 0, 0], [0, 0, 0], [1, 0, 0]], [0, 0, 0]))])
        total, saying = Sum.parse("abc", "1 * size(back row)"), Saying.parse(house, "one(back row) is one(back row)")
        for behind, told in (("ab", True), ("b", False), ("", False), ("aab", True), ("ba", False), ("cba", False), ("aba", True)):
            self.assertIs(ring_holds(total, saying, ("row", "c", "a", behind, ())), told)
            self.assertIs(is_ring(total, saying, ("row", "c", "a", behind, ())), told)
        # a middle that adds, but behind which the row is entered at another mark
        house = house.having("size", Count(reader, [[1, 0, 0], [0, 0, 0], [1, 0, 0]], [0, 0, 0]))
        saying = Saying.parse(house, str(saying))
        for behind, told in (("", False), ("a", False), ("aa", True)):
            rows = [worth(house, total, {"row": "c" + "a" * many + behind}) for many in (1, 2, 3)]
            self.assertIs(rows[1] > rows[0], behind != "")
            self.assertIs(ring_holds(total, saying, ("row", "c", "a", behind, ())), told)
            self.assertIs(is_ring(total, saying, ("row", "c", "a", behind, ())), told)

    def test_any_values(self):
        for value in any_values():
            self.assertIs(ring_holds(PEAK, ANY, value), False)
            for told in ((value, "b", "ab", "", ()), ("row", "b", "ab", "", (value,)), ("row", value, "ab", "", value), ("row", "", "", value, ())):
                self.assertIs(ring_holds(PEAK, ANY, told), False)
            self.assertIs(ring_holds(PEAK, ANY, ("row", "b", value, "", ())), value == "ab")
            self.assertIs(ring_holds(summed("1 * peak(row) + 1 * size(two)"), ANY, ("row", "b", "ab", "", value)), False)
            self.assertIs(ring_holds(summed("1 * peak(row) + 1 * size(two)"), ANY, ("row", "b", "ab", "", (("two", value),))), isinstance(value, str) and set(value) <= set("ab"))

    def test_random_rings(self):
        count = 0
        for total, saying in weighings(random.Random(151), 300):
            told = ring(total, saying)
            self.assertEqual(told is None, most(total, saying) != "endless")
            if told is None:
                continue
            count += 1
            self.check_same(told[4], tuple((name, row) for name, row in told[4]))
            self.assertEqual(sorted([told[0]] + [name for name, _ in told[4]]), names_of(total, saying))
            self.assertTrue(is_ring(total, saying, told))
            self.assertIs(ring_holds(total, saying, told), True)
            name, ahead, middle, behind, others = told
            rows = [{**dict(others), name: ahead + middle * many + behind} for many in range(1, 5)]
            self.assertTrue(all(true_at(saying, own) for own in rows))
            worths = [worth(saying.house, total, own) for own in rows]
            gains = {other - one for one, other in zip(worths, worths[1:])}
            self.assertEqual(len(gains), 1)
            self.assertGreater(min(gains), 0)
        self.assertGreater(count, 40)

    def test_rings_by_definition(self):
        chance = random.Random(152)
        told = []
        for total, saying in weighings(chance, 150):
            names = names_of(total, saying)
            for _ in range(6):
                if names:
                    name = chance.choice(names)
                    rows = rows_to(saying.house.signs, 3)
                    value = (name, chance.choice(rows), chance.choice(rows[1:]), chance.choice(rows), tuple((own, chance.choice(rows)) for own in names if own != name))
                    told.append(is_ring(total, saying, value))
                    self.assertIs(ring_holds(total, saying, value), told[-1])
        self.assertGreater(told.count(True), 40)

    def test_rows_above(self):
        for bound in (-5, 0, 1, 7, 1000):
            told = rows_above(PEAK, ENDS, bound)
            self.check_same(told, (("row", told[0][1]),))
            self.assertIs(true_at(ENDS, dict(told)), True)
            self.assertGreater(worth(HALL, PEAK, dict(told)), bound)
        for bound in (-9, -2, -1, 0, 10 ** 12):
            told = rows_above(summed("2 * peak(row) + -1 * size(row)"), ENDS, bound)
            if bound >= -1:
                self.assertIsNone(told)
            else:
                self.assertGreater(worth(HALL, summed("2 * peak(row) + -1 * size(row)"), dict(told)), bound)
        self.check_same(rows_above(summed("3"), said("odds('a') is odd"), 2), ())
        self.assertIsNone(rows_above(summed("3"), said("odds('a') is odd"), 3))
        self.assertIsNone(rows_above(summed("3"), said("odds('a') is even"), 2))
        self.assertIsNone(rows_above(bound=-7, saying=said("not odds(row) is odds(row)"), total=SIZE))

    def test_rows_above_of_random_sums(self):
        for total, saying in weighings(random.Random(153), 150):
            greatest = most(total, saying)
            for bound in (-40, 0, 60) if isinstance(greatest, str) else (-40, greatest - 1, greatest):
                told = rows_above(total, saying, bound)
                if greatest == "none" or (greatest != "endless" and greatest <= bound):
                    self.assertIsNone(told)
                else:
                    self.assertEqual([name for name, _ in told], names_of(total, saying))
                    self.assertTrue(tried(saying, dict(told)))
                    self.assertGreater(worth(saying.house, total, dict(told)), bound)


class RateTest(Checks, unittest.TestCase):
    def test_told_rates(self):
        few = said("( last(row) is yes and not last(row) is last(row) )")
        for total, saying, told in (("2 * peak(row) + -1 * size(row)", ANY, (0, 1)), ("1 * peak(row)", ANY, (1, 2)), ("3 * peak(row)", ENDS, (3, 2)),
                                    ("-1 * size(row)", ANY, (-1, 1)), ("-3 * size(row) + 1 * peak(row)", ANY, (-5, 2)), ("1 * size(row)", few, None),
                                    ("7", ANY, (0, 1)), ("7", said("odds('a') is odd"), None), ("7", said("odds('a') is even"), None),
                                    ("1 * size(row) + -2 * size(two)", ANY, (1, 1)), ("-1 * size(row) + -2 * size(two)", ANY, (-1, 1)),
                                    ("-1 * size(row)", said("odds(two) is odd"), (0, 1)), ("2 * size([ab,](row))", ANY, (4, 1)), ("1 * size([,](row))", ANY, (0, 1)),
                                    ("-2 * size([ab,](row)) + -1 * size(row)", ANY, (-1, 1)), ("1 * size(row + back row + 'ab')", ANY, (2, 1))):
            self.check_same(rate(summed(total), saying), told)
        self.check_same(rate(saying=ANY, total=PEAK), (1, 2))

    def test_finitely_many_rows(self):
        # only rows of one sign and the empty one stay away from dd
        short = Reader("ab", ["aa", "bb", "dd"], "aa", [["bb", "bb"], ["dd", "dd"], ["dd", "dd"]])
        house = House("ab", [("short", short)], HALL.counts)
        for text, told in (("not short(row) is dd", None), ("short(row) is aa", None), ("short(row) is dd", (1, 1)), ("( not short(row) is dd and not short(two) is dd )", None),
                           ("( not short(row) is dd or short(two) is aa )", (1, 1)), ("( not short(row) is dd and short(two) is short(two) )", (0, 1))):
            saying = Saying.parse(house, text)
            self.check_same(rate(SIZE, saying), told)
            for slope in ((-100, 1), (0, 1), (100, 7)):
                self.assertEqual(slopes(SIZE, saying, slope) is None, told is not None and slope[0] * told[1] < told[0] * slope[1])

    def test_random_rates(self):
        counts = {}
        for total, saying in weighings(random.Random(154), 120, most=12, posts=60):
            told = rate(total, saying)
            counts[told is None] = counts.get(told is None, 0) + 1
            names = names_of(total, saying)
            saying = with_lengths(saying)
            if told is None:
                self.assertNotEqual(most(lengths_of(names), saying), "endless")
                continue
            self.check_same(told, (told[0], told[1]))
            self.assertGreater(told[1], 0)
            self.assertTrue(all(told[0] % number or told[1] % number for number in range(2, 50)))
            # what is told: the worth less so much a sign has a greatest one, at no lesser fraction
            self.assertNotIn(most(total.scaled(told[1]) + lengths_of(names).scaled(-told[0]), saying), ("endless", "none"))
            less = (told[0] * 1000 - 1, told[1] * 1000)
            self.assertEqual(most(total.scaled(less[1]) + lengths_of(names).scaled(-less[0]), saying), "endless")
            self.assertEqual(most(total, saying) == "endless", told[0] > 0)
        self.assertGreater(min(counts.values()), 10)


class SlopesTest(Checks, unittest.TestCase):
    def test_told_papers(self):
        no, yes = (("no", "yes"), ("no", "yes")), (("yes", "yes"), ("yes", "yes"))
        last_no = (("no", "no"), ("no", "no"))
        table = ((no, ("no",), 0), (no, ("yes",), 0), (yes, ("no",), 0), (yes, ("yes",), 0), (last_no, ("no",), 1), (last_no, ("yes",), 1))
        # two times a step, less one: a gains -1, b gains -1 or 1
        self.assertIs(slopes_hold(PEAK, ANY, (1, 2), (("row", table),)), True)
        self.assertIs(slopes_hold(PEAK, ANY, (2, 4), (("row", table),)), False)
        doubled = tuple((point, entering, 2 * height) for point, entering, height in table)
        self.assertIs(slopes_hold(PEAK, ANY, (2, 4), (("row", doubled),)), True)
        self.assertIs(slopes_hold(value=(("row", table),), slope=(1, 1), saying=ANY, total=PEAK), True)
        for slope in ((0, 1), (1, 3), (-1, 2)):
            self.assertIs(slopes_hold(PEAK, ANY, slope, (("row", table),)), False)
        for height in (None, 0, -1):
            lower = table[:4] + ((last_no, ("no",), height),) + table[5:]
            self.assertIs(slopes_hold(PEAK, ANY, (1, 2), (("row", lower),)), False)
        for at in range(6):
            self.assertIs(slopes_hold(PEAK, ANY, (1, 2), (("row", table[:at] + table[at + 1:]),)), False)
            self.assertIs(slopes_hold(PEAK, ANY, (1, 2), (("row", table + table[at:at + 1]),)), False)
        # as high as one likes: there is no bound
        higher = tuple((point, entering, height + 10 ** 9) for point, entering, height in table)
        self.assertIs(slopes_hold(PEAK, ANY, (1, 2), (("row", higher),)), True)

    def test_fractions_around_the_rate(self):
        for total, saying in ((PEAK, ANY), (summed("-3 * size(row) + 1 * peak(row)"), ENDS), (summed("1 * size(one) + -2 * size(two)"), said("last(one + two) is yes"))):
            above, below = rate(total, saying)
            for slope in ((above, below), (above * 3, below * 3), (above * 7 + 1, below * 7), (above + 5, below), (10 ** 6, 1)):
                paper = slopes(total, saying, slope)
                self.assertIs(slopes_hold(total, saying, slope, paper), True)
                self.assertTrue(is_paper(total, saying, paper, slope))
            for slope in ((above * 7 - 1, below * 7), (above - 1, below), (-10 ** 6, 1)):
                self.assertIsNone(slopes(slope=slope, saying=saying, total=total))

    def test_level_papers(self):
        for total, saying in weighings(random.Random(155), 60, most=12, posts=60):
            self.assertEqual(slopes(total, saying, (0, 1)) is None, most(total, saying) == "endless")
            if isinstance(most(total, saying), int):
                # a paper of heights is one for a level slope
                self.assertIs(slopes_hold(total, saying, (0, 1), heights(total, saying, most(total, saying))), True)

    def test_random_papers(self):
        chance = random.Random(156)
        told = []
        for total, saying in weighings(chance, 120, most=8, posts=30):
            fastest = rate(total, saying)
            for slope in ((0, 1), (chance.randint(-3, 3), chance.randint(1, 4)), (0, 1) if fastest is None else fastest):
                paper = slopes(total, saying, slope)
                self.assertEqual(paper is None, fastest is not None and slope[0] * fastest[1] < fastest[0] * slope[1])
                if paper is None:
                    continue
                self.assertIs(slopes_hold(total, saying, slope, paper), True)
                self.assertTrue(is_paper(total, saying, paper, slope))
                for _ in range(3):
                    value = spoilt(chance, paper)
                    told.append(is_paper(total, saying, value, slope))
                    self.assertIs(slopes_hold(total, saying, slope, value), told[-1])
        self.assertGreater(told.count(True), 30)
        self.assertGreater(told.count(False), 100)

    def test_any_values(self):
        paper = slopes(PEAK, ANY, (1, 2))
        for value in any_values():
            self.assertIs(slopes_hold(PEAK, ANY, (1, 2), value), False)
            self.assertIs(slopes_hold(PEAK, ANY, (1, 2), (value,)), False)
            self.assertIs(slopes_hold(PEAK, ANY, (1, 2), (("row", value),)), False)
            self.assertIs(slopes_hold(PEAK, ANY, (1, 2), (("row", paper[0][1] + (value,)),)), False)
        self.check_same(slopes(summed("3"), said("odds('a') is odd"), (-9, 2)), ())
        self.assertIs(slopes_hold(summed("3"), said("odds('a') is odd"), (-9, 2), ()), True)
        self.assertIs(slopes_hold(summed("3"), said("odds('a') is odd"), (-9, 2), []), False)

    def test_worths_stay_below(self):
        for total, saying in weighings(random.Random(157), 40, most=10, posts=60):
            told = rate(total, saying)
            if told is None:
                continue
            names = names_of(total, saying)
            greatest = most(total.scaled(told[1]) + lengths_of(names).scaled(-told[0]), with_lengths(saying))
            for number, rows in worths_met(total, saying, 3 if len(names) < 3 else 2):
                self.assertLessEqual(number * told[1] - told[0] * sum(len(rows[name]) for name in names), greatest)


if __name__ == "__main__":
    unittest.main()
