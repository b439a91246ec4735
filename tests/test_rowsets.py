"""[51]: the rows that conditions let."""

import random
import unittest

from allrows.conditions import Condition, contrary, every, only
from allrows.errors import Mismatch
from allrows.rowsets import is_endless, kth, least_let, many, parting, place, within_holds, within_paper
from support import Checks, any_values, least, random_condition, rows_to

EVENS = Condition("ab", [[1, 0], [0, 1]], [0])
NONE, EMPTY = only("ab", []), only("ab", [""])
ENDS = Condition("ab", [[1, 0], [1, 0]], [1])


def conditions(seed, number, most=4):
    chance = random.Random(seed)
    return [random_condition(chance, chance.choice(("a", "ab", "abc")), most) for _ in range(number)]


class RowsTest(Checks, unittest.TestCase):
    def test_told_rows(self):
        self.check_same([kth(EVENS, number) for number in range(6)], ["", "b", "aa", "bb", "aab", "aba"])
        self.check_same((least_let(EVENS), least_let(contrary(EVENS)), least_let(condition=NONE), least_let(EMPTY)), ("", "a", None, ""))
        self.check_same((is_endless(EVENS), is_endless(NONE), is_endless(EMPTY), is_endless(condition=only("ab", ["a" * 60]))), (True, False, False, False))
        self.check_same((many(EVENS, 0), many(EVENS, 3), many(length=60, condition=EVENS), many(NONE, 200), many(EMPTY, 1)), (1, 4, 2 ** 59, 0, 0))
        self.assertEqual(many(every("abc"), 200), 3 ** 200)
        self.check_same((kth(NONE, 0), kth(EMPTY, 0), kth(EMPTY, 1), kth(number=10 ** 12, condition=only("ab", ["ab"]))), (None, "", None, None))
        self.check_same((place(EVENS, "bb"), place(EVENS, "a"), place(row="", condition=EMPTY), place(EMPTY, "b"), place(NONE, "")), (3, None, 0, None, None))

    def test_random_conditions(self):
        for condition in conditions(171, 200):
            rows = rows_to(condition.signs, 6)
            let = [row for row in rows if condition.lets(row)]
            if least_let(condition) is None:
                self.assertEqual(let, [])
            self.assertEqual(least_let(condition), least(let))
            self.assertEqual([kth(condition, number) for number in range(len(let))], let)
            self.assertEqual([place(condition, row) for row in rows], [let.index(row) if row in let else None for row in rows])
            self.assertEqual([many(condition, length) for length in range(7)], [sum(len(row) == length for row in let) for length in range(7)])
            # rows longer than there are marks come to a mark twice
            self.assertIs(is_endless(condition), any(len(condition) <= len(row) for row in let))
            if not is_endless(condition):
                self.assertIsNone(kth(condition, len(let)))
                self.assertIsNone(kth(condition, len(let) + 10 ** 12))

    def test_great_numbers(self):
        for number in (0, 1, 7, 10 ** 6, 10 ** 12):
            for condition in (EVENS, ENDS, every("abc"), contrary(only("ab", ["", "ab"]))):
                self.assertEqual(place(condition, kth(condition, number)), number)
                self.assertIs(condition.lets(kth(condition, number)), True)
        # one row of each length: a row with 200 signs
        self.assertEqual(kth(every("x"), 200), "x" * 200)
        self.assertEqual(place(every("x"), "x" * 60), 60)
        lone = Condition("ab", [[0, 1], [2, 2], [2, 2]], [1])
        self.assertEqual(kth(lone, 150), "a" * 150 + "b")
        # rows of many lengths are left out
        spread = Condition("x", [[mark + 1] for mark in range(39)] + [[0]], [39])
        self.assertEqual((kth(spread, 0), kth(spread, 4)), ("x" * 39, "x" * 199))

    def test_finitely_many(self):
        few = only("ab", ["ab", "", "bba"])
        self.check_same([kth(few, number) for number in range(4)], ["", "ab", "bba", None])
        self.check_same([place(few, row) for row in ("", "ab", "bba", "bb", "bbaa")], [0, 1, 2, None, None])


class PartingTest(Checks, unittest.TestCase):
    def test_parting(self):
        self.check_same((parting(EVENS, ENDS), parting(EVENS, every("ab")), parting(NONE, EMPTY), parting(other=EVENS, one=EVENS)), ("", "a", "", None))
        told = conditions(172, 120)
        for one, other in zip(told, told[1:]):
            if one.signs == other.signs:
                self.assertEqual(parting(one, other), least([row for row in rows_to(one.signs, 8) if one.lets(row) != other.lets(row)]))
                self.assertIs(parting(one, other) is None, one == other)

    def test_within_papers(self):
        self.check_same(within_paper(ENDS, every("ab")), ((0, 0), (1, 0)))
        self.assertIsNone(within_paper(EVENS, ENDS))
        self.check_same(within_paper(NONE, EVENS), ((0, 0), (0, 1)))
        few = only("ab", ["", "aa"])
        paper = within_paper(other=EVENS, one=few)
        for value, told in ((paper, True), (paper + paper, True), (paper[::-1], True), (paper[1:], False), (paper[:-1], False), ((), False), (list(paper), False),
                            (paper + ((0, 1),), False), (paper + ((3, 1), (3, 0)), False), (((0, 0),), False)):
            self.assertIs(within_holds(few, EVENS, value), told)
        # pairs to which no row comes
        wide = only("ab", ["", "aa", "b"])
        paper = within_paper(few, wide)
        self.assertNotIn((2, 0), paper)
        self.assertIs(within_holds(few, wide, paper + tuple((2, mark) for mark in range(len(wide)))), True)
        self.assertIs(within_holds(few, wide, paper + ((2, 0),)), False)
        self.assertIs(within_holds(value=((0, 0), (1, 0)), other=every("ab"), one=ENDS), True)

    def test_within_papers_of_random_conditions(self):
        chance = random.Random(173)
        count = 0
        for _ in range(200):
            signs = chance.choice(("a", "ab"))
            one, other = random_condition(chance, signs, 3), random_condition(chance, signs, 3)
            paper = within_paper(one, other)
            self.assertEqual(paper is None, not one.within(other))
            pairs = [(chance.randrange(len(one)), chance.randrange(len(other))) for _ in range(chance.randint(0, 9))]
            values = [((0, 0),) + tuple(pairs), tuple((mark, own) for mark in range(len(one)) for own in range(len(other)))]
            if paper is not None:
                count += 1
                self.assertIs(within_holds(one, other, paper), True)
                at = chance.randrange(len(paper))
                values += [paper[:at] + paper[at + 1:], paper + ((0, 0),), paper + tuple(pairs[:1]), paper[:at] + tuple(pairs[:1]) + paper[at + 1:]]
            for value in values:
                told = (0, 0) in value and not any(mark in one.good and own not in other.good for mark, own in value) and all(
                    (one.steps[mark][at], other.steps[own][at]) in value for mark, own in value for at in range(len(signs)))
                self.assertIs(within_holds(one, other, value), told)
                if told:
                    self.assertIs(one.within(other), True)
        self.assertGreater(count, 30)

    def test_any_values(self):
        paper = within_paper(only("ab", ["", "aa"]), EVENS)
        for value in any_values():
            self.assertIs(within_holds(only("ab", ["", "aa"]), EVENS, value), False)
            self.assertIs(within_holds(only("ab", ["", "aa"]), EVENS, paper + (value,)), False)
            if value.__class__ is not int or not 0 <= value <= 1:
                self.assertIs(within_holds(only("ab", ["", "aa"]), EVENS, paper + ((3, value),)), False)
                self.assertIs(within_holds(every("ab"), every("ab"), ((0, 0), (value, 0))), False)
        for pair in ((0, 0, 0), (0,), [0, 0], (False, 0), (0, False), (4, 0), (0, 2), (-1, 0), ("0", 0)):
            self.assertIs(within_holds(only("ab", ["", "aa"]), EVENS, paper + (pair,)), False)
            self.assertIs(within_holds(every("ab"), every("ab"), (pair,)), False)

    def test_other_signs(self):
        for call in (lambda: parting(EVENS, every("a")), lambda: within_paper(EVENS, every("a")), lambda: within_holds(EVENS, every("a"), None)):
            self.check_error(Mismatch, call)


if __name__ == "__main__":
    unittest.main()
