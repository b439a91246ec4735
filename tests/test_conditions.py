"""[50]: conditions."""

import random
import unittest
from itertools import product

from allrows.conditions import Condition, both, contrary, either, every, only, rest
from allrows.errors import InvalidCondition, InvalidText, Mismatch
from support import Checks, any_values, least, random_condition, rows_to

EVENS = Condition("ab", [[1, 0], [0, 1]], [0])


def led(steps, signs, row):
    mark = 0
    for sign in row:
        mark = steps[mark][signs.index(sign)]
    return mark


def random_arguments(chance, signs, most=6):
    many = chance.randint(1, most)
    steps = [[chance.randrange(many) for _ in signs] for _ in range(many)]
    good = [mark for mark in range(many) if chance.random() < 0.4]
    chance.shuffle(good)
    return steps, good


class ConditionTest(Checks, unittest.TestCase):
    def test_told_conditions(self):
        self.check_same((EVENS.signs, EVENS.steps, EVENS.good), ("ab", ((1, 0), (0, 1)), (0,)))
        self.assertEqual([EVENS.lets(row) for row in ("", "a", "ab", "aba", "ba", "baa")], [True, False, False, True, False, True])
        self.assertEqual(len(EVENS), 2)
        # marks to which no row leads, marks alike, other numbers
        for steps, good in (([[1, 0], [0, 1], [2, 0]], [0, 2]), ([[2, 0], [0, 1], [0, 2]], [0, 1]), ([[1, 2], [2, 1], [1, 0]], [2, 0]),
                            ([[3, 1], [2, 0], [1, 3], [0, 2]], (1, 0)), (((1, 0), [0, 1]), (0,))):
            self.assertEqual(Condition("ab", steps, good), EVENS)
            self.check_same(Condition(good=good, steps=steps, signs="ab").steps, ((1, 0), (0, 1)))
        self.check_same(Condition("abc", [[0, 0, 0]], []).good, ())
        self.check_same(Condition("ab", [[1, 1], [0, 0]], [1, 0]).steps, ((0, 0),))
        self.check_same(Condition("ab", [[1, 1], [0, 0]], [1, 0]).good, (0,))
        self.check_same(Condition("ab", [[1, 1], [0, 0]], []).good, ())
        self.check_same(Condition("x", [[1], [2], [3], [2]], [3, 1]).steps, ((1,), (0,)))

    def test_later_changes(self):
        steps, good = [[1, 0], [0, 1]], [0]
        condition = Condition("ab", steps, good)
        steps[0][0] = 0
        steps.append([0, 0])
        good.append(1)
        self.assertEqual(condition, EVENS)
        self.assertIs(condition.lets("a"), False)

    def test_wrong_signs(self):
        for value in any_values() + ["ba", "abcd", "aa"]:
            if value not in ("a", "b", "ab", "abc", "or"):
                self.check_error(InvalidCondition, lambda: Condition(value, None, None), word="signs")

    def test_wrong_steps(self):
        for value in any_values():
            self.check_error(InvalidCondition, lambda: Condition("ab", value, None), word="steps")
            if not (isinstance(value, (list, tuple)) and len(value) == 2 and all(one.__class__ is int and one < 2 for one in value)):
                self.check_error(InvalidCondition, lambda: Condition("ab", [[0, 1], value], None), word="steps")
            if value.__class__ is not int or value not in (0, 1):
                self.check_error(InvalidCondition, lambda: Condition("ab", [[0, 1], [value, 0]], None), word="steps")
        for steps in ([], (), [[0, 0], [0]], [[0, 0, 0]], [[0, 1]], [[0, -1]], [[0, 2], [0, 0]], [[0, True], [0, 0]], ["00"], [[0, 0], "00"], {0: [0, 0]}):
            self.check_error(InvalidCondition, lambda: Condition("ab", steps, None), word="steps")

    def test_wrong_good(self):
        for value in any_values():
            if not (isinstance(value, (list, tuple)) and all(one.__class__ is int and one < 2 for one in value)):
                self.check_error(InvalidCondition, lambda: Condition("ab", [[0, 1], [1, 0]], value), word="good")
            if value.__class__ is not int or value not in (0, 1):
                self.check_error(InvalidCondition, lambda: Condition("ab", [[0, 1], [1, 0]], [value]), word="good")
            self.check_error(InvalidCondition, lambda: Condition("ab", [[0, 1], [1, 0]], [0, 1, value]), word="good")
        for good in ([0, 0], (1, 0, 1), [2], [-1], [True], ["0"], 0, "0", {0: True}):
            self.check_error(InvalidCondition, lambda: Condition("ab", [[0, 1], [1, 0]], good), word="good")

    def test_least_form(self):
        chance = random.Random(161)
        for _ in range(300):
            signs = chance.choice(("a", "ab", "abc"))
            steps, good = random_arguments(chance, signs)
            condition = Condition(signs, steps, good)
            rows = rows_to(signs, 5 if signs != "abc" else 4)
            for row in rows:
                self.assertIs(condition.lets(row), led(steps, signs, row) in good)
            # marks are numbered by their least rows, and no two let the same rows
            leasts = [least([row for row in rows if led(condition.steps, signs, row) == mark]) for mark in range(len(condition))]
            self.assertNotIn(None, leasts)
            self.assertEqual(leasts, sorted(leasts, key=lambda row: (len(row), row)))
            lets = [tuple(led(condition.steps, signs, row + more) in condition.good for more in rows_to(signs, 5)) for row in leasts]
            self.assertEqual(len(set(lets)), len(lets))
            self.assertEqual(list(condition.good), sorted(condition.good))
            self.check_same(condition.steps, tuple(tuple(targets) for targets in condition.steps))
            self.assertEqual(Condition(signs, condition.steps, condition.good), condition)

    def test_equal_just_if_the_same_rows_are_let(self):
        chance = random.Random(162)
        told = [Condition("ab", *random_arguments(chance, "ab", 3)) for _ in range(60)]
        for one, other in product(told, told):
            self.assertIs(one == other, all(one.lets(row) == other.lets(row) for row in rows_to("ab", 5)))
        for value in any_values():
            self.assertEqual(EVENS == value, isinstance(value, Condition))
        self.assertFalse(Condition("a", [[0]], [0]) == Condition("b", [[0]], [0]))
        self.assertFalse(EVENS == contrary(EVENS))
        with self.assertRaises(TypeError):
            iter(EVENS)

    def test_many_marks(self):
        steps = [[mark + 1, 0] for mark in range(39)] + [[39, 0]]
        condition = Condition("ab", steps, [39])
        self.assertEqual(len(condition), 40)
        self.assertIs(condition.lets("b" + "a" * 39), True)
        self.assertIs(condition.lets(row="b" + "a" * 38), False)
        self.assertEqual(Condition.parse(str(condition)), condition)


class TextTest(Checks, unittest.TestCase):
    def test_text(self):
        self.assertEqual(str(EVENS), "condition ab\n0: 1 0 good\n1: 0 1")
        self.assertEqual(str(every("x")), "condition x\n0: 0 good")
        self.assertEqual(Condition.parse("condition ab\n0: 1 0 good\n1: 0 1"), EVENS)
        # no least forms
        self.assertEqual(Condition.parse("condition ab\n0: 1 2\n1: 2 1 good\n2: 1 0"), Condition("ab", [[1, 2], [2, 1], [1, 0]], [1]))
        self.assertEqual(Condition.parse(text="condition ab\n0: 1 0 good\n1: 0 1\n2: 0 0"), EVENS)

    def test_round(self):
        chance = random.Random(163)
        for _ in range(100):
            condition = random_condition(chance, chance.choice(("a", "ab", "abc")), 8)
            self.assertEqual(Condition.parse(str(condition)), condition)
        lines = ["condition x"] + [f"{mark}: {mark + 1}" for mark in range(999)] + ["999: 0 good"]
        self.assertEqual(len(Condition.parse("\n".join(lines))), 1000)

    def test_no_text(self):
        for value in any_values():
            self.check_error(InvalidText, lambda: Condition.parse(value), at=0)
        for line in ("", "condition", "condition ", "condition  ab", " condition ab", "condition ab ", "Condition ab", "condition a b", "reader ab", "0: 1 0"):
            self.check_error(InvalidText, lambda: Condition.parse(line + "\n0: 0 0"), at=0)
            self.check_error(InvalidText, lambda: Condition.parse(line), at=0)

    def test_wrong_lines(self):
        lines = ["condition ab", "0: 1 2", "1: 2 1 good", "2: 1 0"]
        wrong = ["", "0", "{}:", "{}: ", "{}: good", "{}: 1  0", "{}:1 0", " {}: 1 0", "{}: 1 0 ", "{}: 1 0 Good", "{}: 1 0 good good", "{}: good 1 0", "{}: 1 good 0",
                 "{}: a b", "{}: -1 0", "{}: +1 0", "{}: 1.0 0", "{}: 1000 0", "{}: 0 1234", "{}; 1 0", "0{}: 1 0", "{}: 01 0", "{}: 00 0", "9: 1 0", "{}: 1, 0", "{}: \xb2 0",
                 "x: 1 0", "-{}: 1 0", "{}: 1 0 good ", "{}: 1 0  good", "{}: 1 0good", "{}:  1 0", "{}: 1_0 0", ": 1 0"]
        for at in range(1, 4):
            for line in wrong:
                text = "\n".join(lines[:at] + [line.replace("{}", str(at - 1))] + lines[at + 1:])
                self.check_error(InvalidText, lambda: Condition.parse(text), at=at)
                self.check_error(InvalidText, lambda: Condition.parse(text + "\n?"), at=at)
        self.check_error(InvalidText, lambda: Condition.parse("\n".join(lines) + "\n"), at=4)

    def test_lines_out_twice_and_exchanged(self):
        lines = ["condition ab", "0: 1 2", "1: 2 1 good", "2: 1 0"]
        for order, at in (([0, 2, 3], 1), ([0, 1, 3], 2), ([1, 2, 3], 0), ([0, 1, 1, 2, 3], 2), ([0, 1, 2, 2, 3], 3), ([0, 1, 2, 3, 3], 4), ([0, 0, 1, 2, 3], 1),
                          ([0, 2, 1, 3], 1), ([0, 1, 3, 2], 2)):
            self.check_error(InvalidText, lambda: Condition.parse("\n".join(lines[number] for number in order)), at=at)

    def test_errors_of_conditions(self):
        for text, word in (("condition ba\n0: 0 0", "signs"), ("condition xyzz\n0: 0", "signs"), ("condition ab", "steps"), ("condition ab\n0: 1 0", "steps"),
                           ("condition ab\n0: 0", "steps"), ("condition ab\n0: 0 0 0 good", "steps"), ("condition ab\n0: 1 2\n1: 2 1 good", "steps"),
                           ("condition ab\n0: 999 0", "steps")):
            self.check_error(InvalidCondition, lambda: Condition.parse(text), word=word)


class TogetherTest(Checks, unittest.TestCase):
    def test_random_conditions(self):
        chance = random.Random(164)
        for _ in range(150):
            signs = chance.choice(("a", "ab", "abc"))
            one, other = random_condition(chance, signs, 4), random_condition(chance, signs, 4)
            made = both(one, other), either(one, other), rest(one, other), contrary(one)
            for row in rows_to(signs, 5):
                is_in, is_in_other = one.lets(row), other.lets(row)
                self.assertEqual([condition.lets(row) for condition in made],
                                 [is_in and is_in_other, is_in or is_in_other, is_in and not is_in_other, not is_in])
            inside = not any(one.lets(row) and not other.lets(row) for row in rows_to(signs, 7 if signs != "a" else 20))
            self.assertIs(one.within(other), inside)
            self.assertEqual(contrary(contrary(one)), one)
            self.assertEqual(rest(one, other), both(one, contrary(other)))

    def test_within(self):
        self.assertIs(only("ab", ["", "aa"]).within(EVENS), True)
        self.assertIs(only("ab", ["", "a"]).within(other=EVENS), False)
        self.assertIs(EVENS.within(every("ab")), True)
        self.assertIs(every("ab").within(EVENS), False)
        self.assertIs(contrary(every("ab")).within(EVENS), True)

    def test_every_and_only(self):
        for signs in ("a", "ab", "xyz"):
            self.assertEqual(every(signs=signs), Condition(signs, [[0] * len(signs)], [0]))
        chance = random.Random(165)
        for _ in range(60):
            signs = chance.choice(("a", "ab", "abc"))
            rows = [chance.choice(rows_to(signs, 4)) for _ in range(chance.randint(0, 6))]
            condition = only(signs, rows)
            for row in rows_to(signs, 5):
                self.assertIs(condition.lets(row), row in rows)
            self.assertEqual(only(rows=tuple(rows + rows), signs=signs), condition)
        self.assertEqual(only("ab", []), contrary(every("ab")))
        self.assertEqual(only("ab", [""]), Condition("ab", [[1, 1], [1, 1]], [0]))
        long = only("ab", ["a" * 60, "b" * 60, "a" * 59])
        self.assertEqual([long.lets(row) for row in ("a" * 60, "a" * 59, "b" * 59, "b" * 60, "a" * 61, "a" * 58)], [True, True, False, True, False, False])

    def test_other_signs(self):
        other = every("abc")
        for call in (lambda: EVENS.within(other), lambda: both(EVENS, other), lambda: either(EVENS, other), lambda: rest(EVENS, other), lambda: both(one=other, other=EVENS)):
            self.check_error(Mismatch, call)


if __name__ == "__main__":
    unittest.main()
