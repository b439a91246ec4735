"""[52]: conditions for rows turned about, put together, cut and changed."""

import random
import unittest

from allrows.changes import Change
from allrows.conditions import Condition, contrary, every, only
from allrows.errors import Mismatch
from allrows.leading import after, ahead, before, joined, turned
from support import Checks, SWAP, random_change, random_condition, rows_to

EVENS = Condition("ab", [[1, 0], [0, 1]], [0])
ENDS = Condition("ab", [[1, 0], [1, 0]], [1])
NONE, EMPTY = only("ab", []), only("ab", [""])


def pairs(seed, number, most=3):
    chance = random.Random(seed)
    for _ in range(number):
        signs = chance.choice(("a", "ab", "ab", "abc"))
        yield chance, random_condition(chance, signs, most), random_condition(chance, signs, most)


class LeadingTest(Checks, unittest.TestCase):
    def test_turned(self):
        self.assertEqual(turned(condition=only("ab", ["ab", "bba"])), only("ab", ["ba", "abb"]))
        self.assertEqual(turned(EVENS), EVENS)
        self.assertEqual(str(turned(ENDS)), "condition ab\n0: 1 2\n1: 1 1 good\n2: 2 2")
        for _, one, _ in pairs(181, 150, 5):
            condition = turned(one)
            for row in rows_to(one.signs, 5):
                self.assertIs(condition.lets(row), one.lets(row[::-1]))
            self.assertEqual(turned(condition), one)

    def test_joined(self):
        self.assertEqual(joined(only("ab", ["", "a"]), only("ab", ["", "ab"])), only("ab", ["", "a", "ab", "aab"]))
        self.assertEqual(joined(one=NONE, other=every("ab")), NONE)
        self.assertEqual(joined(every("ab"), NONE), NONE)
        self.assertEqual(joined(EMPTY, ENDS), ENDS)
        self.assertEqual(joined(ENDS, EMPTY), ENDS)
        for _, one, other in pairs(182, 150):
            condition = joined(one, other)
            for row in rows_to(one.signs, 5):
                self.assertIs(condition.lets(row), any(one.lets(row[:at]) and other.lets(row[at:]) for at in range(len(row) + 1)))

    def test_ahead(self):
        self.assertEqual(ahead(only("ab", ["ab", "abb", "b"]), "ab"), only("ab", ["", "b"]))
        self.assertEqual(ahead(row="a", condition=EVENS), contrary(EVENS))
        for _, one, _ in pairs(183, 60):
            for row in rows_to(one.signs, 3):
                condition = ahead(one, row)
                self.assertTrue(all(condition.lets(more) == one.lets(row + more) for more in rows_to(one.signs, 3)))
            self.assertEqual(ahead(one, ""), one)

    def test_before(self):
        self.assertEqual(before(only("ab", ["aab", "ba"]), Change("ab", ["aa", "b"])), only("ab", ["ab"]))
        self.assertEqual(before(change=Change("ab", ["", ""]), condition=EVENS), every("ab"))
        self.assertEqual(before(ENDS, SWAP), Condition("ab", [[0, 1], [0, 1]], [1]))
        for chance, one, _ in pairs(184, 150, 4):
            change = random_change(chance, one.signs, chance.choice((2, 6)))
            condition = before(one, change)
            for row in rows_to(one.signs, 4):
                self.assertIs(condition.lets(row), one.lets(change.of(row)))

    def test_after(self):
        self.assertEqual(after(only("ab", ["ab", ""]), Change("ab", ["aa", "b"])), only("ab", ["aab", ""]))
        self.assertEqual(after(ENDS, Change("ab", ["", "b"])), Condition("ab", [[1, 0], [1, 1]], [0]))
        self.assertEqual(after(change=Change("ab", ["", ""]), condition=ENDS), EMPTY)
        self.assertEqual(after(NONE, SWAP), NONE)
        self.assertEqual(after(EVENS, Change("ab", ["ab", "ba"])).lets("abbaab"), True)
        for chance, one, _ in pairs(185, 150, 4):
            change = random_change(chance, one.signs, chance.choice((1, 2, 3)))
            condition = after(one, change)
            images = {change.of(row) for row in rows_to(one.signs, 6 if len(one.signs) < 3 else 5) if one.lets(row)}
            # longer rows may have short images, but not shorter ones if no image is empty
            for row in images:
                self.assertIs(condition.lets(row), True)
            if "" not in change.rows:
                for row in rows_to(one.signs, 5):
                    self.assertIs(condition.lets(row), row in images)

    def test_after_with_empty_images(self):
        # with signs left out, a row of at most as many further signs as there are marks tells all
        for chance, one, _ in pairs(186, 100):
            if one.signs == "abc":
                continue
            images = [chance.choice(("a", "aa", "")) for _ in one.signs]
            change = Change(one.signs, images)
            condition = after(one, change)
            found = {change.of(row) for row in rows_to(one.signs, 11) if one.lets(row)}
            for row in rows_to(one.signs, 2):
                self.assertIs(condition.lets(row), row in found)

    def test_after_and_before_go_together(self):
        told = []
        for chance, one, other in pairs(187, 300):
            change = random_change(chance, one.signs, 2)
            told.append(after(one, change).within(other))
            self.assertIs(told[-1], one.within(before(other, change)))
            self.assertIs(after(one, change).within(after(one, change)), one.within(before(after(one, change), change)))
        self.assertGreater(told.count(True), 20)

    def test_great_conditions(self):
        chance = random.Random(188)
        for _ in range(5):
            one = Condition("ab", [[chance.randrange(8) for _ in "ab"] for _ in range(8)], [chance.randrange(8)])
            change = Change("ab", ["abaabb", "ababba"])
            self.assertEqual(turned(turned(one)), one)
            condition = after(one, change)
            for row in rows_to("ab", 3):
                self.assertIs(condition.lets(change.of(row)), one.lets(row))
            put_together = joined(one, one)
            for row in rows_to("ab", 7):
                self.assertIs(put_together.lets(row), any(one.lets(row[:at]) and one.lets(row[at:]) for at in range(len(row) + 1)))

    def test_other_signs(self):
        for call in (lambda: joined(EVENS, every("a")), lambda: before(EVENS, Change("a", [""])), lambda: after(EVENS, Change("abc", ["", "", ""]))):
            self.check_error(Mismatch, call)


if __name__ == "__main__":
    unittest.main()
