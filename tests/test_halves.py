"""[54]: halves between two sayings."""

import random
import unittest
from itertools import product

from allrows.conditions import Condition, every, only, rest
from allrows.errors import Mismatch
from allrows.halves import broken, fewest_half, halves, is_half, is_only, loose_rows
from allrows.houses import House
from allrows.readers import Reader
from allrows.rowsets import least_let
from allrows.sayings import Saying
from allrows.wheres import some_where, where
from support import END, HOME, Checks, is_small, random_house, random_saying, tried

EVENS = Condition("ab", [[1, 0], [0, 1]], [0])


def said(text, house=HOME):
    return Saying.parse(house, text)


def pairs(seed, number, most=30):
    """Pairs of sayings with just the name xx in common."""
    chance = random.Random(seed)
    told = []
    while len(told) < number:
        house = random_house(chance, chance.choice(("a", "ab", "ab")), 3)
        one = random_saying(chance, house, ("xx", "yy"), chance.randint(0, 2), 1)
        other = random_saying(chance, house, ("xx", "zz"), chance.randint(0, 2), 1)
        if chance.random() < 0.3:
            other = Saying(house, ("or", other, one if one.names == ("xx",) else other))
        if is_small(one, most) and is_small(other, most) and set(one.names) & set(other.names) == {"xx"}:
            told.append((one, other))
    return told


def machines(signs, many):
    """All conditions with at most so many marks."""
    for steps in product(product(range(many), repeat=len(signs)), repeat=many):
        for flags in product((False, True), repeat=many):
            yield Condition(signs, steps, [mark for mark in range(many) if flags[mark]])


class HalvesTest(Checks, unittest.TestCase):
    def test_told_sayings(self):
        one, other = said("( odds(xx) is even and odds(yy) is odd )"), said("odds(xx + zz + back zz) is even")
        self.assertEqual(halves(one, other), (EVENS, EVENS))
        self.assertIs(is_only(one, other), True)
        self.assertEqual(loose_rows(one, other), only("ab", []))
        self.assertEqual(fewest_half(one, other), EVENS)
        self.assertIsNone(broken(one, other))
        self.assertIs(is_half(one, other, EVENS), True)
        # endlessly many halves
        one, other = said("( odds(xx) is even and ends(xx) is yes )"), said("( odds(xx) is even or ends(xx) is no )")
        least, greatest = halves(other=other, one=one)
        self.assertIs(is_only(other=other, one=one), False)
        self.assertEqual(loose_rows(other=other, one=one), rest(greatest, least))
        self.assertEqual(fewest_half(other=other, one=one), EVENS)
        self.assertIs(is_half(condition=EVENS, other=other, one=one), True)
        for condition in (least, greatest):
            self.assertIs(is_half(one, other, condition), True)
        for condition in (every("ab"), only("ab", []), only("ab", [""])):
            self.assertIs(is_half(one, other, condition), False)
        # there is none
        for call in (halves, fewest_half, loose_rows):
            self.assertIsNone(call(other, one))
        self.assertIs(is_only(other, one), False)
        self.assertIs(is_half(other, one, EVENS), False)
        self.check_same(broken(other, one), ("", (), ()))
        self.check_same(broken(other=one, one=other), ("", (), ()))

    def test_broken_rows(self):
        one, other = said("( odds(xx) is odd and odds(yy + zz) is odd )"), said("( odds(xx) is odd and ends(vv + ww) is yes )")
        row, rows, others = broken(one, other)
        self.assertEqual(row, "a")
        self.assertEqual(([name for name, _ in rows], [name for name, _ in others]), (["yy", "zz"], ["vv", "ww"]))
        self.assertTrue(tried(one, {"xx": row, **dict(rows)}))
        self.assertFalse(tried(other, {"xx": row, **dict(others)}))

    def test_fewest_of_all(self):
        # everything goes: one mark is enough
        self.assertEqual(fewest_half(said("not odds(xx) is odds(xx)"), said("odds(xx) is odds(xx)")) in (every("ab"), only("ab", [])), True)
        self.assertEqual(len(fewest_half(said("ends(xx) is yes"), said("odds(xx) is odds(xx)"))), 1)
        # rows of at most two signs, and those of at most three, or four: marks for a, aa, more
        short = Reader("ab", ["aa", "bb", "cc", "dd"], "aa", [["bb", "bb"], ["cc", "cc"], ["dd", "dd"], ["dd", "dd"]])
        turning = Reader("ab", ["aa", "bb", "cc", "dd"], "aa", [["bb", "bb"], ["cc", "cc"], ["dd", "dd"], ["aa", "aa"]])
        house = House("ab", [("short", short), ("turns", turning), ("ends", END)])
        for one, other, number in (("short(xx) is aa", "short(xx) is aa", 2), ("short(xx) is bb", "short(xx) is bb", 3), ("short(xx) is cc", "short(xx) is cc", 4),
                                   ("short(xx) is aa", "not short(xx) is bb", 2), ("short(xx) is bb", "not short(xx) is cc", 2), ("short(xx) is cc", "not short(xx) is aa", 2),
                                   ("short(xx) is cc", "( short(xx) is cc or short(xx) is dd )", 3), ("turns(xx) is bb", "( turns(xx) is bb or turns(xx) is dd )", 2),
                                   ("turns(xx) is bb", "not turns(xx) is dd", 4), ("turns(xx) is bb", "turns(xx) is bb", 4),
                                   ("( turns(xx) is bb and ends(xx) is yes )", "not ( turns(xx) is dd and ends(xx) is yes )", 4)):
            told = fewest_half(said(one, house), said(other, house))
            self.assertIs(is_half(said(one, house), said(other, house), told), True)
            self.assertEqual(len(told), number)
            smaller = [condition for many in range(1, min(len(told), 4)) for condition in machines("ab", many)]
            self.assertFalse(any(is_half(said(one, house), said(other, house), condition) for condition in smaller[::7]))

    def test_fewest_comes_round(self):
        # lengths 1 and 2 are in, 0 and 3 are not: the lengths by three, although neither end is so
        marks = ["ma", "mb", "mc", "md", "me"]
        house = House("ab", [("one", Reader("ab", marks, "ma", [[mark, mark] for mark in marks[1:] + marks[-1:]]))])
        one, other = said("( one(xx) is mb or one(xx) is mc )", house), said("not ( one(xx) is ma or one(xx) is md )", house)
        self.assertEqual([len(condition) for condition in halves(one, other)], [4, 5])
        self.assertEqual(fewest_half(one, other), Condition("ab", [[1, 1], [2, 2], [0, 0]], [1, 2]))

    def test_random_sayings(self):
        chance = random.Random(201)
        counts = {}
        for one, other in pairs(202, 150):
            least, greatest = some_where(one, "xx"), where(other, "xx")
            told = halves(one, other)
            self.assertEqual(told is None, not least.within(greatest))
            self.assertIs(is_only(one, other), least == greatest)
            kind = "none" if told is None else "one" if least == greatest else "more"
            counts[kind] = counts.get(kind, 0) + 1
            if told is None:
                self.assertIsNone(loose_rows(one, other))
                self.assertIsNone(fewest_half(one, other))
                row, rows, others = broken(one, other)
                self.assertEqual(row, least_let(rest(least, greatest)))
                self.check_same([name for name, _ in rows], [name for name in one.names if name != "xx"])
                self.check_same([name for name, _ in others], [name for name in other.names if name != "xx"])
                self.assertTrue(tried(one, {"xx": row, **dict(rows)}))
                self.assertFalse(tried(other, {"xx": row, **dict(others)}))
                continue
            self.assertEqual(told, (least, greatest))
            self.assertIsNone(broken(one, other))
            self.assertEqual(loose_rows(one, other), rest(greatest, least))
            if min(len(least), len(greatest)) <= 4:
                fewest = fewest_half(one, other)
                self.assertIs(is_half(one, other, fewest), True)
                self.assertLessEqual(len(fewest), min(len(least), len(greatest)))
                for many in range(1, min(len(fewest), 3)):
                    self.assertFalse(any(least.within(condition) and condition.within(greatest) for condition in machines(one.house.signs, many)))
        self.assertGreater(min(counts.values()), 10)
        self.assertEqual(len(counts), 3)

    def test_fewest_between_random_conditions(self):
        # conditions between which halves of three marks are looked for, told by sayings of readers that read into them
        chance = random.Random(203)
        for _ in range(40):
            many = chance.randint(3, 4)
            marks = ["ma", "mb", "mc", "md"][:many]
            reader = Reader("ab", marks, "ma", [[chance.choice(marks) for _ in "ab"] for _ in marks])
            house = House("ab", [("one", reader)])
            inside = chance.sample(marks, chance.randint(1, many - 1))
            further = inside + [mark for mark in marks if mark not in inside and chance.random() < 0.4]
            one = said(_any_of([f"one(xx) is {mark}" for mark in inside]), house)
            other = said(_any_of([f"one(xx) is {mark}" for mark in further]), house)
            told = fewest_half(one, other)
            least, greatest = halves(one, other)
            self.assertIs(is_half(one, other, told), True)
            for smaller in range(1, min(len(told), 4)):
                self.assertFalse(any(least.within(condition) and condition.within(greatest) for condition in machines("ab", smaller)))

    def test_mismatch(self):
        for one, other in (("odds(xx) is even", "odds(yy) is even"), ("odds(xx + yy) is even", "odds(yy + xx) is even"), ("odds('a') is odd", "odds(xx) is even"),
                           ("for all xx odds(xx) is even", "odds(xx) is even"), ("odds('a') is odd", "odds('a') is odd")):
            for call in (halves, broken, is_only, loose_rows, fewest_half):
                self.check_error(Mismatch, lambda: call(said(one), said(other)))
            self.check_error(Mismatch, lambda: is_half(said(one), said(other), EVENS))
        self.check_error(Mismatch, lambda: is_half(said("odds(xx) is even"), said("odds(xx) is even"), every("abc")))


def _any_of(texts):
    text = texts[0]
    for further in texts[1:]:
        text = f"( {text} or {further} )"
    return text


if __name__ == "__main__":
    unittest.main()
