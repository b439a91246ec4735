"""[61] to [65]: least rows of readers, their rules, turns, rows that act alike."""

import random
import unittest
from itertools import product

from allrows.acts import act
from allrows.readers import Reader
from allrows.rewriting import (ahead, always_alike, behind, commute, fits, least_like, least_ones, misfit, parting_rows, power, rules_of, tells,
                               turning, turns, unsound, untold)
from allrows.rules import Rules, is_complete, overlaps, plain_rows
from allrows.terms import Term
from support import END, EVEN, LAST, ODD, ONE_MARK, Checks, random_reader, rows_to, wide_reader
from test_rules import many_rules, order

SEEN = Reader("ab", ["no", "yes"], "no", [["yes", "no"], ["yes", "yes"]])
EVENS = Rules("ab", [("b", ""), ("aa", "")])


def acts_of(readers, row):
    return tuple(act(reader, row) for reader in readers)


def rows_of_acts(readers):
    """For each act the least row, by trying rows until those of one length have no new act."""
    found, length = {}, 0
    while True:
        new = {}
        for row in product(readers[0].signs, repeat=length):
            told = acts_of(readers, "".join(row))
            if told not in found:
                new.setdefault(told, "".join(row))
        if not new:
            return found
        found.update(new)
        length += 1


def small_readers(seed, many, most=25):
    chance = random.Random(seed)
    told = []
    while len(told) < many:
        signs = chance.choice(("a", "ab", "ab", "abc"))
        readers = [wide_reader(chance, signs, 3) for _ in range(chance.choice((1, 1, 2, 3)))]
        if len(least_ones(readers)) <= most:
            told.append(readers if chance.random() < 0.5 else tuple(readers))
    return told


def plain_term(chance, signs, names, most=4):
    parts = []
    for _ in range(chance.randint(0, most)):
        row = "".join(chance.choice(signs) for _ in range(chance.randint(0, 2)))
        parts.append(("row", row) if chance.random() < 0.3 else ("name", chance.choice(names), False, None))
    return Term(parts)


class LeastTest(Checks, unittest.TestCase):
    def test_told_readers(self):
        self.check_same(least_ones([ODD, SEEN]), ("", "a", "aa"))
        self.check_same(least_ones(readers=(ONE_MARK,)), ("",))
        self.assertEqual(least_ones([END]), ("", "a", "b"))
        self.assertEqual(least_like([END], "abab"), "b")
        self.assertEqual(least_like(readers=[ODD, SEEN], row="a" * 60), "aa")
        self.assertEqual(least_like([ODD], ""), "")

    def test_by_rows(self):
        for readers in small_readers(61, 80):
            found = rows_of_acts(readers)
            self.check_same(least_ones(readers), tuple(sorted(found.values(), key=order)))
            for row in rows_to(readers[0].signs, 5):
                self.assertEqual(least_like(readers, row), found[acts_of(readers, row)])

    def test_rules(self):
        self.assertEqual(rules_of([ODD]), EVENS)
        self.check_same(rules_of([SEEN]).pairs, (("b", ""), ("aa", "a")))
        self.check_same(rules_of(readers=(ODD, SEEN)).pairs, (("b", ""), ("aaa", "a")))
        self.assertEqual(rules_of([ONE_MARK]).pairs, (("a", ""), ("b", "")))

    def test_rules_by_rows(self):
        for readers in small_readers(62, 60, 15):
            found = rows_of_acts(readers)
            least = set(found.values())
            longest = max(len(row) for row in least)
            lefts = [row for row in rows_to(readers[0].signs, longest + 1) if row not in least
                     and all(row[begin:end] in least for begin in range(len(row)) for end in range(begin, len(row) + 1) if end - begin < len(row))]
            rules = rules_of(readers)
            self.assertEqual(rules.signs, readers[0].signs)
            self.check_same(rules.pairs, tuple((left, found[acts_of(readers, left)]) for left in sorted(lefts, key=order)))
            self.assertIs(is_complete(rules), True)
            self.assertIs(fits(readers, rules), True)
            for row in rows_to(readers[0].signs, 5):
                self.assertEqual(rules.reduced(row), least_like(readers, row))


class FitsTest(Checks, unittest.TestCase):
    def test_told_rules(self):
        self.assertIs(fits([ODD], EVENS), True)
        self.assertIsNone(misfit([ODD], EVENS))
        self.assertIsNone(unsound(readers=[ODD], rules=EVENS))
        self.assertEqual(unsound([SEEN], EVENS), 1)
        self.assertEqual(unsound([END], Rules("ab", [("b", ""), ("aa", "")])), 0)
        # sound, but too few
        for rules in (Rules("ab", []), Rules("ab", [("b", "")]), Rules("ab", [("b", ""), ("aaa", "a")])):
            self.assertIs(fits(readers=[ODD], rules=rules), False)
            one, other = misfit(readers=[ODD], rules=rules)
            self.assertEqual(act(ODD, one), act(ODD, other))
            self.assertNotEqual(rules.reduced(one), rules.reduced(other))
        # all rules fit where no two rows act alike but by them: one sign, one mark
        self.assertIs(fits([ONE_MARK], Rules("ab", [("a", ""), ("b", "")])), True)

    def test_an_open_overlap(self):
        # aaa comes to ab, and to ba, both of which act like each other
        reader = Reader("ab", ["aa", "bb", "cc"], "aa", [["bb", "cc"], ["cc", "aa"], ["aa", "bb"]])
        rules = Rules("ab", [("aa", "b")])
        self.assertIsNone(unsound([reader], rules))
        self.assertNotEqual(overlaps(rules), ())
        self.assertIs(fits([reader], rules), False)

    def test_by_rows(self):
        chance = random.Random(63)
        all_rules = [rules for rules in many_rules(63, 200) if rules.signs in ("a", "ab")]
        count = 0
        for rules in all_rules:
            readers = [random_reader(chance, rules.signs, 2) for _ in range(chance.choice((1, 2)))]
            if chance.random() < 0.3:
                rules = rules_of(readers)
                rules = Rules(rules.signs, [pair for pair in rules.pairs if chance.random() < 0.9])
            wrong = [number for number, (left, right) in enumerate(rules.pairs) if acts_of(readers, left) != acts_of(readers, right)]
            self.assertEqual(unsound(readers, rules), wrong[0] if wrong else None)
            told = misfit(readers, rules)
            self.assertIs(fits(readers, rules), told is None)
            if told is None:
                plain = plain_rows(rules)
                self.assertEqual(len({acts_of(readers, row) for row in plain}), len(plain))
                for one, other in product(rows_to(rules.signs, 4), repeat=2):
                    self.assertIs(acts_of(readers, one) == acts_of(readers, other), rules.reduced(one) == rules.reduced(other))
            else:
                count += 1
                self.assertTrue(isinstance(told, tuple) and len(told) == 2)
                alike = acts_of(readers, told[0]) == acts_of(readers, told[1])
                self.assertIsNot(alike, rules.reduced(told[0]) == rules.reduced(told[1]))
        self.assertTrue(20 < count < len(all_rules) - 20)

    def test_tells(self):
        self.assertIs(tells([ODD, SEEN], [SEEN]), True)
        self.assertIs(tells(readers=[ODD], others=[SEEN]), False)
        self.assertIsNone(untold([ODD, SEEN], [SEEN]))
        self.assertIs(tells([END], [ONE_MARK]), True)
        chance = random.Random(64)
        for readers in small_readers(64, 100, 12):
            others = [random_reader(chance, readers[0].signs, 2)] + ([readers[0]] if chance.random() < 0.3 else [])
            if chance.random() < 0.3:
                others = [chance.choice(readers)]
            alike = {}
            for row in rows_of_acts(list(readers) + others).values():
                alike.setdefault(acts_of(readers, row), set()).add(acts_of(others, row))
            told = untold(readers=readers, others=others)
            self.assertIs(told is None, all(len(one) == 1 for one in alike.values()))
            self.assertIs(tells(readers, others), told is None)
            if told is not None:
                self.assertTrue(isinstance(told, tuple))
                self.assertEqual(acts_of(readers, told[0]), acts_of(readers, told[1]))
                self.assertNotEqual(acts_of(others, told[0]), acts_of(others, told[1]))


class TurnsTest(Checks, unittest.TestCase):
    def tried(self, readers, row):
        told = [acts_of(readers, row * many) for many in range(60)]
        return min((begin, turn) for begin in range(30) for turn in range(1, 30) if told[begin] == told[begin + turn])

    def test_told_rows(self):
        self.check_same((turns([ODD], "ab"), turns([SEEN], "a"), turns([ODD], "")), ((0, 2), (1, 1), (0, 1)))
        self.assertEqual(power([ODD, SEEN], "a", 10 ** 15), "aa")
        self.assertEqual(power([ODD, SEEN], "a", 10 ** 15 + 1), "a")
        self.assertEqual(power(readers=[ODD, SEEN], row="a", many=0), "")
        self.assertEqual(power([END], "", 10 ** 15), "")
        self.assertIsNone(turning([SEEN]))
        self.assertEqual(turning(readers=[ODD]), "a")
        self.assertIsNone(turning([END, SEEN]))

    def test_by_rows(self):
        for readers in small_readers(65, 40, 12):
            rows = rows_to(readers[0].signs, 2)
            for row in rows:
                begin, turn = turns(readers=readers, row=row)
                self.assertEqual((begin, turn), self.tried(readers, row))
                for many in range(14):
                    self.assertEqual(power(readers, row, many), least_like(readers, row * many))
                many = 10 ** 15 - 7
                self.assertEqual(power(readers, row, many), least_like(readers, row * (begin + (many - begin) % turn)))
            least = [row for row in least_ones(readers) if self.tried(readers, row)[1] > 1]
            self.assertEqual(turning(readers), least[0] if least else None)

    def test_behind_and_ahead(self):
        self.assertEqual((behind([ODD], "a", "b"), ahead([SEEN], "a", ""), behind([END], "a", "b"), ahead([END], "a", "b")), ("a", None, "b", None))
        self.assertEqual((behind([END], "b", ""), ahead([END], "", "b"), behind([ODD], "ab", "ba")), (None, "b", ""))
        chance = random.Random(66)
        for readers in small_readers(66, 60):
            rows = rows_to(readers[0].signs, 3)
            tried = sorted(rows_of_acts(readers).values(), key=order)
            for one, other in [(chance.choice(rows), chance.choice(rows)) for _ in range(10)]:
                found = [row for row in tried if acts_of(readers, one + row) == acts_of(readers, other)]
                self.assertEqual(behind(readers=readers, one=one, other=other), found[0] if found else None)
                found = [row for row in tried if acts_of(readers, row + one) == acts_of(readers, other)]
                self.assertEqual(ahead(readers=readers, one=one, other=other), found[0] if found else None)

    def test_commute(self):
        self.assertIsNone(commute([ODD]))
        self.check_same(commute(readers=[END]), ("a", "b"))
        self.check_same(commute((ODD, LAST)), ("a", "b"))
        self.assertIsNone(commute([ONE_MARK]))
        for readers in small_readers(67, 120):
            rows = rows_to(readers[0].signs, 3)
            found = [pair for pair in product(rows, repeat=2) if acts_of(readers, "".join(pair)) != acts_of(readers, pair[1] + pair[0])]
            self.assertEqual(commute(readers), min(found, key=lambda pair: (order(pair[0]), order(pair[1]))) if found else None)

    def test_commute_of_later_signs(self):
        # a commutes with all, b and c do not
        reader = Reader("abc", ["no", "yes"], "no", [["no", "yes", "no"], ["yes", "yes", "no"]])
        self.assertEqual(commute([reader]), ("b", "c"))


class PartingTest(Checks, unittest.TestCase):
    def tried(self, readers, one, other):
        names = sorted(set(one.names) | set(other.names))
        rows = list(rows_of_acts(readers).values())
        found = []
        for choice in product(rows, repeat=len(names)):
            told = dict(zip(names, choice))
            if acts_of(readers, one.spelled(told)) != acts_of(readers, other.spelled(told)):
                found.append((sum(map(len, choice)), choice))
        return tuple(zip(names, min(found)[1])) if found else None

    def test_told_terms(self):
        x, y = Term.of_name("xx"), Term.of_name("yy")
        self.assertIs(always_alike([ODD], x + y, y + x), True)
        self.assertIsNone(parting_rows(readers=[ODD], one=x + y, other=y + x))
        self.assertIs(always_alike(readers=[END], one=x + y, other=y + x), False)
        self.check_same(parting_rows([END], x + y, y + x), (("xx", "a"), ("yy", "b")))
        # a name twice, and names that only one of both has
        self.assertIs(always_alike([END], x + x, x), True)
        self.check_same(parting_rows([ODD], x + x + y, y + x), (("xx", "a"), ("yy", "")))
        self.check_same(parting_rows([ODD], x, y), (("xx", ""), ("yy", "a")))
        self.check_same(parting_rows([ODD], Term([]), Term.of_row("a")), ())
        self.assertIsNone(parting_rows([ODD], Term.of_row("b"), Term.of_row("aa")))
        self.assertIsNone(parting_rows([ODD], Term([]), x + x))
        self.check_same(parting_rows([ODD, SEEN], Term([]), x + x + y + y), (("xx", ""), ("yy", "a")))

    def test_by_rows(self):
        chance = random.Random(68)
        alike = 0
        for readers in small_readers(68, 400, 9):
            signs = readers[0].signs
            names = ("xx", "yy", "zz")[:chance.randint(1, 3)]
            one = plain_term(chance, signs, names)
            other = plain_term(chance, signs, names)
            if chance.random() < 0.3:
                parts = list(one.parts)
                chance.shuffle(parts)
                other = Term(parts)
            told = self.tried(readers, one, other)
            alike += told is None
            self.check_same(parting_rows(readers, one, other), told)
            self.assertIs(always_alike(readers, one, other), told is None)
        self.assertTrue(50 < alike < 350, alike)

    def test_many_names(self):
        reader = Reader("ab", ["aa", "bb", "cc", "dd"], "aa", [["bb", "bb"], ["cc", "aa"], ["dd", "cc"], ["aa", "dd"]])
        self.assertEqual(len(least_ones([reader])), 24)
        names = ["xx", "yy", "zz", "ww"]
        one, other = (Term([("name", name, False, None) for name in told]) for told in (names, names[::-1]))
        self.check_same(parting_rows([reader], one, other), (("ww", ""), ("xx", ""), ("yy", "a"), ("zz", "b")))
        counted = Reader("ab", ["aa", "bb", "cc", "dd"], "aa", [["bb", "aa"], ["cc", "bb"], ["dd", "cc"], ["aa", "dd"]])
        self.assertIs(always_alike([counted, EVEN], one, other), True)


if __name__ == "__main__":
    unittest.main()
