"""[56] to [60]: rules, moves, overlaps, plain rows, chains."""

import random
import unittest
from itertools import product

from allrows.errors import InvalidRules, RowError
from allrows.rules import Rules, chain, chain_holds, is_complete, many_plain, open_overlaps, overlaps, plain_rows
from support import Checks, any_values, rows_to

EVEN, UNDO, ODD = Rules("ab", [("b", ""), ("aa", "")]), Rules("ab", [("ab", ""), ("ba", "")]), Rules("ab", [("aa", "b")])
NONE = Rules("ab", [])


def order(row):
    return len(row), row


def random_rules(chance, most=4, long=3):
    signs = chance.choice(("a", "ab", "ab", "abc"))
    pairs = []
    for _ in range(chance.randint(0, most)):
        left = "".join(chance.choice(signs) for _ in range(chance.randint(1, long)))
        right = chance.choice([row for row in rows_to(signs, len(left)) if order(row) < order(left)])
        if not any(left in other or other in left for other, _ in pairs):
            pairs.append((left, right))
    return Rules(signs, pairs)


def many_rules(seed, many):
    chance = random.Random(seed)
    return [random_rules(chance) for _ in range(many)]


def moves_tried(rules, row):
    return sorted((place, number) for place in range(len(row) + 1) for number, (left, _) in enumerate(rules.pairs)
                  if row[place:place + len(left)] == left)


def after_tried(rules, row, move):
    left, right = rules.pairs[move[1]]
    return row[:move[0]] + right + row[move[0] + len(left):]


def reduced_tried(rules, row):
    road = []
    while moves_tried(rules, row):
        road.append(min(moves_tried(rules, row)))
        row = after_tried(rules, row, road[-1])
    return row, tuple(road)


class RulesTest(Checks, unittest.TestCase):
    def test_arguments(self):
        rules = Rules("ab", [("b", ""), ("aa", "")])
        self.check_same((rules.signs, rules.pairs), ("ab", (("b", ""), ("aa", ""))))
        self.assertEqual(Rules(pairs=(("b", ""), ("aa", "")), signs="ab"), rules)
        self.assertNotEqual(Rules("ab", [("aa", ""), ("b", "")]), rules)
        self.assertNotEqual(Rules("abc", [("b", ""), ("aa", "")]), rules)
        self.assertEqual(NONE.pairs, ())
        for value in any_values():
            self.assertIs(rules == value, False)

    def test_later_changes(self):
        pairs = [("b", "")]
        rules = Rules("ab", pairs)
        pairs.append(("aa", ""))
        self.assertEqual(rules.pairs, (("b", ""),))

    def test_wrong_signs(self):
        for value in any_values() + ["ba", "aab", "abcd", "aA", ""]:
            if not isinstance(value, str) or value not in ("a", "b", "ab", "abc", "or"):
                self.check_error(InvalidRules, lambda: Rules(value, None), word="signs")

    def test_wrong_pairs(self):
        for value in any_values():
            if value not in ([], ()):
                self.check_error(InvalidRules, lambda: Rules("ab", value), word="pairs")
        wrong = [[["b", ""]], [("b",)], [("b", "", "")], [("c", "")], [("b", "c")], [("", "")], [("a", "a")], [("a", "b")], [("ab", "ba")],
                 [("ab", "aaa")], [("b", ""), ("ab", "")], [("ab", ""), ("b", "")], [("aab", ""), ("a", "")], [("b", ""), ("b", "a")],
                 [("bab", ""), ("a", "")], [("b", 0)], [(None, "")], [("b", ""), None], {("b", ""): 1}, iter([("b", "")])]
        for value in wrong:
            self.check_error(InvalidRules, lambda: Rules("ab", value), word="pairs")

    def test_moves(self):
        self.assertEqual(EVEN.moves("abab"), ((1, 0), (3, 0)))
        self.assertEqual(UNDO.moves("abab"), ((0, 0), (1, 1), (2, 0)))
        self.assertEqual(EVEN.moves(""), ())
        self.assertEqual(NONE.moves("ab"), ())
        self.assertEqual(UNDO.after("abab", (1, 1)), "ab")
        for rules in many_rules(56, 60):
            for row in rows_to(rules.signs, 5):
                self.check_same(rules.moves(row=row), tuple(moves_tried(rules, row)))
                for move in rules.moves(row):
                    self.assertEqual(rules.after(row=row, move=move), after_tried(rules, row, move))
                    self.assertLess(order(rules.after(row, move)), order(row))

    def test_reduced(self):
        self.check_same((EVEN.reduced("abab"), EVEN.road("abab")), ("", ((1, 0), (0, 1), (0, 0))))
        for rules in many_rules(57, 60):
            for row in rows_to(rules.signs, 6):
                self.check_same((rules.reduced(row=row), rules.road(row=row)), reduced_tried(rules, row))

    def test_reduced_long_rows(self):
        swap = Rules("ab", [("ba", "ab")])
        self.assertEqual(swap.reduced("ba" * 30), "a" * 30 + "b" * 30)
        self.assertEqual(len(swap.road("b" * 30 + "a" * 30)), 900)
        self.assertEqual(UNDO.reduced("ab" * 30), "")


class OverlapsTest(Checks, unittest.TestCase):
    def tried(self, rules):
        """By the rows: each that begins with one left side, ends with another one, which share a sign, but not all."""
        found = set()
        for (one, right), (other, other_right) in product(rules.pairs, repeat=2):
            for length in range(max(len(one), len(other)) + 1, len(one) + len(other)):
                row = one + other[len(one) + len(other) - length:]
                if row.startswith(one) and row.endswith(other):
                    ends = sorted([right + row[len(one):], row[:length - len(other)] + other_right], key=order)
                    if ends[0] != ends[1]:
                        found.add((row, *ends))
        return tuple(sorted(found))

    def test_told_rules(self):
        self.check_same(overlaps(EVEN), ())
        self.check_same(overlaps(ODD), (("aaa", "ab", "ba"),))
        self.assertEqual(overlaps(UNDO), ())
        self.assertEqual(overlaps(NONE), ())
        self.assertIs(is_complete(NONE), True)
        self.assertIs(is_complete(rules=UNDO), True)
        self.assertIs(is_complete(ODD), False)
        self.check_same(open_overlaps(rules=ODD), (("aaa", "ab", "ba"),))
        # one pair with itself in two ways, of which one gives unlike rows; the order is that of strings
        self.assertEqual(overlaps(Rules("ab", [("aba", "b")])), (("ababa", "abb", "bba"),))
        self.assertEqual(overlaps(Rules("ab", [("bb", "a"), ("ba", "")])), (("bba", "b", "aa"), ("bbb", "ab", "ba")))

    def test_by_rows(self):
        for rules in many_rules(58, 300):
            self.check_same(overlaps(rules=rules), self.tried(rules))
            told = tuple(one for one in self.tried(rules) if reduced_tried(rules, one[1])[0] != reduced_tried(rules, one[2])[0])
            self.check_same(open_overlaps(rules), told)
            self.assertIs(is_complete(rules), told == ())

    def test_complete_rules_lead_to_one_row(self):
        for rules in many_rules(59, 150):
            rows = rows_to(rules.signs, 5)
            joined = all(rules.reduced(rules.after(row, move)) == rules.reduced(row) for row in rows for move in rules.moves(row))
            # left sides have at most three signs: an open overlap shows within five
            self.assertIs(is_complete(rules), joined)


class PlainTest(Checks, unittest.TestCase):
    def test_told_rules(self):
        self.check_same(plain_rows(EVEN), ("", "a"))
        self.assertIsNone(plain_rows(UNDO))
        self.assertIsNone(plain_rows(NONE))
        self.check_same(plain_rows(rules=Rules("ab", [("a", ""), ("b", "")])), ("",))
        self.check_same(plain_rows(Rules("a", [("aaa", "a")])), ("", "a", "aa"))
        self.assertEqual((many_plain(UNDO, 3), many_plain(ODD, 3), many_plain(EVEN, 1), many_plain(EVEN, 2), many_plain(NONE, 0)), (2, 5, 1, 0, 1))
        self.assertEqual(many_plain(rules=NONE, long=200), 2 ** 200)
        self.assertEqual(plain_rows(Rules("ab", [("aa", ""), ("b", "a")])), ("", "a"))

    def test_by_rows(self):
        for rules in many_rules(60, 200):
            most = 8 if len(rules.signs) < 3 else 6
            rows = [row for row in rows_to(rules.signs, most) if not moves_tried(rules, row)]
            for long in range(most + 1):
                self.assertEqual(many_plain(rules, long), len([row for row in rows if len(row) == long]))
            told = plain_rows(rules)
            # of left sides with three signs there are at most a dozen beginnings: so this many signs tell
            if told is None:
                self.assertGreater(many_plain(rules, 40), 0)
            else:
                self.assertEqual(many_plain(rules, len(told[-1]) + 1), 0)
                self.check_same(tuple(row for row in told if len(row) <= most), tuple(rows))
                self.assertEqual(list(told), sorted(told, key=order))

    def test_many_left_sides(self):
        rules = Rules("ab", [(row, "") for row in ("bbbbbb", "babab", "abba", "aaaaaaa", "abbb", "abaa")])
        told = plain_rows(rules)
        self.assertEqual((len(told), len(set(told)), max(len(row) for row in told)), (243, 243, 15))
        self.assertEqual([len([row for row in told if len(row) == long]) for long in range(30)], [many_plain(rules, long) for long in range(30)])


class ChainTest(Checks, unittest.TestCase):
    def holds_tried(self, rules, one, other, value):
        rows = [triple[0] for triple in value] + [other]
        if rows[0] != one:
            return False
        for (row, move, is_back), following in zip(value, rows[1:]):
            begin, end = (following, row) if is_back else (row, following)
            if move not in moves_tried(rules, begin) or after_tried(rules, begin, move) != end:
                return False
        return True

    def test_told_chains(self):
        self.assertEqual(chain(ODD, "ab", "ab"), ())
        self.assertIsNone(chain(ODD, "ab", "ba"))
        self.assertIs(chain_holds(ODD, "ab", "ba", (("ab", (1, 0), True), ("aaa", (0, 0), False))), True)
        self.assertIs(chain_holds(ODD, "ab", "ab", ()), True)
        self.assertIs(chain_holds(ODD, "ab", "ba", ()), False)
        # longer ones, and such that come round
        round_about = (("ab", (1, 0), True), ("aaa", (0, 0), False), ("ba", (0, 0), True), ("aaa", (1, 0), False))
        self.assertIs(chain_holds(ODD, "ab", "ab", round_about), True)
        self.assertIs(chain_holds(ODD, "ab", "ba", round_about + round_about + (("ab", (1, 0), True), ("aaa", (0, 0), False))), True)
        for value in ((("ab", (1, 0), False),), (("ab", (1, 0), True), ("aaa", (1, 0), False)), [("ab", (1, 0), True), ("aaa", (0, 0), False)],
                      (["ab", (1, 0), True], ("aaa", (0, 0), False)), (("ab", [1, 0], True), ("aaa", (0, 0), False)),
                      (("ab", (1, 0), 1), ("aaa", (0, 0), False)), (("ab", (True, 0), True), ("aaa", (0, 0), False)),
                      (("ab", (1, False), True), ("aaa", (0, 0), False)), (("ab", (1, -1), True), ("aaa", (0, 0), False)),
                      (("ab", (-2, 0), True), ("aaa", (0, 0), False)), (("ab", (1, 0), True), ("aaa", (-3, 0), False)), (("ab", (-2, 0), True), ("aaa", (0, 0), False)),
                      (("ab", (1, 1), True), ("aaa", (0, 0), False)),
                      (("ab", (9, 0), True), ("aaa", (0, 0), False)), (("ba", (0, 0), True), ("aaa", (0, 0), False)),
                      (("ab", (1, 0), True), ("aaa", (0, 0), False), ("ba", (0, 0), False)), (("ab", (1, 0), True),), (("ab", (1, 0)),),
                      (("ac", (1, 0), True), ("aaa", (0, 0), False)), (("ab", (1, 0, 0), True), ("aaa", (0, 0), False))):
            self.assertIs(chain_holds(ODD, "ab", "ba", value), False)

    def test_row_to_itself(self):
        self.check_same(chain(Rules("abc", [("acba", ""), ("bbc", ""), ("ca", "")]), "ccccbbc", "ccccbbc"), ())
        for rules in many_rules(63, 40):
            for row in rows_to(rules.signs, 4):
                self.check_same(chain(rules=rules, other=row, one=row), ())
                self.assertIs(chain_holds(rules, row, row, ()), True)

    def test_any_values(self):
        for value in any_values():
            self.assertIs(chain_holds(rules=ODD, one="ab", other="ba", value=value), False)
            self.assertIs(chain_holds(ODD, "ab", "ba", (value,)), False)
            self.assertIs(chain_holds(ODD, "ab", "ba", (("ab", (1, 0), True), value)), False)
            self.assertIs(chain_holds(ODD, "ab", "ba", (("ab", value, True), ("aaa", (0, 0), False))), False)
            self.assertIs(chain_holds(ODD, "ab", "ba", ((value, (1, 0), True), ("aaa", (0, 0), False))), value == "ab")
            self.assertIs(chain_holds(ODD, "ab", "ba", (("ab", (1, 0), value), ("aaa", (0, 0), False))), value is True)

    def test_by_moves(self):
        chance = random.Random(61)
        for rules in many_rules(62, 120):
            rows = rows_to(rules.signs, 4)
            for one, other in [(chance.choice(rows), chance.choice(rows)) for _ in range(12)]:
                told = chain(rules=rules, one=one, other=other)
                if rules.reduced(one) != rules.reduced(other):
                    self.assertIsNone(told)
                    continue
                self.assertIsInstance(told, tuple)
                self.assertTrue(self.holds_tried(rules, one, other, told))
                self.assertIs(chain_holds(rules, one, other, told), True)
                for spoilt in (told[1:], told[:-1], told + told, told[::-1]):
                    self.assertIs(chain_holds(rules, one, other, spoilt), self.holds_tried(rules, one, other, spoilt))

    def test_base_of_errors(self):
        self.assertTrue(issubclass(InvalidRules, RowError))


if __name__ == "__main__":
    unittest.main()
