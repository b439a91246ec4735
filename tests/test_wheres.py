"""[53]: what sayings say of one row, and which readers tell conditions."""

import random
import unittest
from itertools import combinations

from allrows.conditions import Condition, contrary, every, only
from allrows.deciding import holds, sight_of
from allrows.errors import Mismatch, NoName
from allrows.houses import House
from allrows.readers import Reader
from allrows.sayings import Saying
from allrows.wheres import clash, decides, deciders, some_where, told_as, where
from support import END, HOME, ODD, ONE_MARK, Checks, any_values, random_condition, random_reader, rows_for, rows_to, small_sayings, tried

EVENS = Condition("ab", [[1, 0], [0, 1]], [0])
ENDS = Condition("ab", [[1, 0], [1, 0]], [1])


def said(text):
    return Saying.parse(HOME, text)


class WhereTest(Checks, unittest.TestCase):
    def test_told_sayings(self):
        for text, name, all_of_them, some in (
                ("odds(xx) is even", "xx", EVENS, EVENS), ("odds(xx + yy) is even", "xx", only("ab", []), every("ab")),
                ("( ends(xx) is yes or odds(yy) is even )", "xx", ENDS, every("ab")), ("( ends(xx) is yes and odds(yy) is even )", "xx", only("ab", []), ENDS),
                ("( ends(xx) is yes and odds(yy) is even )", "yy", only("ab", []), EVENS), ("for all yy odds(xx + yy + yy) is even", "xx", EVENS, EVENS),
                ("for some yy ( odds(xx + yy) is even and ends(yy) is no )", "xx", every("ab"), every("ab")),
                ("( odds(xx) is odd and for all xx odds(xx + xx) is even )", "xx", contrary(EVENS), contrary(EVENS)),
                ("not ends('a' + back xx) is yes", "xx", Condition("ab", [[1, 2], [1, 1], [2, 2]], [2]), Condition("ab", [[1, 2], [1, 1], [2, 2]], [2]))):
            self.assertEqual(where(said(text), name), all_of_them)
            self.assertEqual(some_where(name=name, saying=said(text)), some)
        self.assertEqual(where(name="xx", saying=said("odds(xx) is even")), EVENS)

    def test_random_sayings(self):
        for saying in small_sayings(191, 120, most=40):
            for name in saying.names:
                others = [own for own in saying.names if own != name]
                lists = [rows_for(sight_of(saying, own), saying.house.signs, 0) for own in others]
                all_of_them, some = where(saying, name), some_where(saying, name)
                for row in rows_for(sight_of(saying, name), saying.house.signs, 1):
                    told = [tried(saying, {name: row, **dict(zip(others, rows))}) for rows in _tuples(lists)]
                    self.assertIs(all_of_them.lets(row), all(told))
                    self.assertIs(some.lets(row), any(told))
                self.assertEqual(contrary(where(saying, name)), some_where(saying.negated(), name))

    def test_names_that_are_not_free(self):
        saying = said("( odds(xx) is even or for all yy odds(yy) is even )")
        for value in any_values() + ["yy", "zz"]:
            if value != "xx":
                self.check_error(NoName, lambda: where(saying, value), name=value)
                self.check_error(NoName, lambda: some_where(saying, value), name=value)
        self.check_error(NoName, lambda: where(said("odds('a') is odd"), "xx"), name="xx")


def _tuples(lists):
    return [()] if not lists else [(row,) + rest for row in lists[0] for rest in _tuples(lists[1:])]


def least_deciders(house, condition):
    """The least lots by [53], by the marks to which rows lead."""
    rows = rows_to(house.signs, 7)
    names = sorted(name for name, _ in house.readers)
    found = []
    for many in range(len(names) + 1):
        for lot in combinations(names, many):
            told = {}
            for row in rows:
                told.setdefault(tuple(house.reader_of(name).read(row) for name in lot), set()).add(condition.lets(row))
            if all(len(flags) == 1 for flags in told.values()) and not any(set(less) <= set(lot) for less in found):
                found.append(lot)
    return tuple(found)


def random_houses(seed, number):
    chance = random.Random(seed)
    for _ in range(number):
        signs = chance.choice(("a", "ab"))
        names = chance.sample(["one", "two", "three", "four"], chance.randint(1, 3))
        house = House(signs, [(name, random_reader(chance, signs, 3)) for name in names])
        if chance.random() < 0.6:
            # one that readers of the house tell
            lot = chance.sample(names, chance.randint(1, len(names)))
            text = f"{lot[0]}(xx) is {chance.choice(house.reader_of(lot[0]).marks)}"
            for name in lot[1:]:
                text = f"( {text} {chance.choice(('and', 'or'))} {name}(xx) is {chance.choice(house.reader_of(name).marks)} )"
            yield house, where(Saying.parse(house, text), "xx")
        else:
            yield house, random_condition(chance, signs, 3)


class DecidersTest(Checks, unittest.TestCase):
    def test_told_conditions(self):
        self.check_same(deciders(HOME, EVENS), (("odds",),))
        self.check_same(deciders(HOME, ENDS), (("ends",),))
        self.check_same(deciders(HOME, where(said("( odds(xx) is even and ends(xx) is yes )"), "xx")), (("ends", "odds"),))
        for condition in (every("ab"), only("ab", [])):
            self.check_same(deciders(HOME, condition), ((),))
            self.check_same(deciders(condition=condition, house=House("ab", [])), ((),))
        self.check_same(deciders(HOME, only("ab", [""])), ())
        self.check_same(deciders(House("ab", []), EVENS), ())
        copies = House("ab", [("zz", ODD), ("ends", END), ("aa", ODD)])
        self.check_same(deciders(copies, EVENS), (("aa",), ("zz",)))
        self.check_same(deciders(copies, where(said("( odds(xx) is even and ends(xx) is yes )"), "xx")), (("aa", "ends"), ("ends", "zz")))
        self.assertIs(decides(HOME, EVENS, ["odds"]), True)
        self.assertIs(decides(HOME, EVENS, ("ends",)), False)
        self.assertIs(decides(names=["ends", "odds"], condition=EVENS, house=HOME), True)
        self.assertIsNone(clash(HOME, EVENS, ["odds"]))
        self.check_same(clash(names=["ends"], condition=contrary(EVENS), house=House("ab", [("ends", ONE_MARK)])), ("a", ""))

    def test_random_houses(self):
        counts = {}
        for house, condition in random_houses(192, 150):
            told = deciders(house, condition)
            self.check_same(told, least_deciders(house, condition))
            counts[len(told)] = counts.get(len(told), 0) + 1
            names = [name for name, _ in house.readers]
            for many in range(1, len(names) + 1):
                for lot in combinations(names, many):
                    is_decided = any(set(less) <= set(lot) for less in told)
                    self.assertIs(decides(house, condition, list(lot)), is_decided)
                    rows = clash(house, condition, lot)
                    self.assertEqual(rows is None, is_decided)
                    if rows is not None:
                        self.check_same(rows, (rows[0], rows[1]))
                        self.assertEqual([condition.lets(row) for row in rows], [True, False])
                        self.assertTrue(all(house.reader_of(name).read(rows[0]) == house.reader_of(name).read(rows[1]) for name in lot))
        self.assertGreater(min(counts.get(number, 0) for number in (0, 1, 2)), 3)

    def test_great_houses(self):
        marks = ["ma", "mb", "mc", "md"]
        steps = {"aa": (1, 0), "bb": (0, 1), "cc": (1, 2), "dd": (2, 1), "ee": (1, 3), "ff": (1, 1)}
        readers = [(name, Reader("ab", marks, "ma", [[marks[(at + step) % 4] for step in told] for at in range(4)])) for name, told in steps.items()]
        house = House("ab", readers)
        condition = where(Saying.parse(house, "( aa(xx) is ma and cc(xx) is mc )"), "xx")
        told = deciders(house, condition)
        self.assertIn(("aa", "cc"), told)
        for lot in told + (tuple(steps),):
            self.assertIs(decides(house, condition, lot), True)
            self.assertEqual(where(told_as(house, condition, lot, "xx"), "xx"), condition)

    def test_other_signs(self):
        for call in (lambda: clash(HOME, every("abc"), ["odds"]), lambda: decides(HOME, every("a"), ["odds"]), lambda: deciders(HOME, every("a")),
                     lambda: told_as(HOME, every("a"), ["odds"], "xx")):
            self.check_error(Mismatch, call)


def atoms(saying):
    if saying.form[0] == "is":
        return [saying]
    return [atom for inner in saying.form[1:] for atom in atoms(inner)]


class ToldAsTest(Checks, unittest.TestCase):
    def test_told_conditions(self):
        for condition, names in ((EVENS, ["odds"]), (EVENS, ("ends", "odds")), (ENDS, ["odds", "ends"]), (every("ab"), ["odds"]), (only("ab", []), ["ends"]),
                                 (where(said("( if ends(xx) is yes then odds(xx) is odd )"), "xx"), ["odds", "ends"])):
            saying = told_as(HOME, condition, names, "row")
            self.check(HOME, condition, names, "row", saying)
        self.assertIsNone(told_as(HOME, EVENS, ["ends"], "row"))
        # without readers there is nothing to tell it by
        self.assertIsNone(told_as(HOME, every("ab"), deciders(HOME, every("ab"))[0], "row"))
        self.assertIsNone(told_as(name="row", names=("odds", "ends"), condition=only("ab", [""]), house=HOME))

    def check(self, house, condition, names, name, saying):
        self.assertEqual(saying.house, house)
        self.check_same(saying.names, (name,))
        for atom in atoms(saying):
            self.assertEqual(atom.form[0], "is")
            self.assertIn(atom.form[1], names)
            self.assertEqual(str(atom.form[2]), name)
        self.assertEqual(where(saying, name), condition)
        self.assertIs(holds(saying), condition == every(house.signs))

    def test_random_houses(self):
        count = 0
        for house, condition in random_houses(194, 150):
            names = [name for name, _ in house.readers]
            for many in range(1, len(names) + 1):
                for lot in combinations(names, many):
                    saying = told_as(house, condition, lot, "xx")
                    self.assertEqual(saying is None, not decides(house, condition, lot))
                    if saying is not None:
                        count += 1
                        self.check(house, condition, lot, "xx", saying)
        self.assertGreater(count, 60)


if __name__ == "__main__":
    unittest.main()
