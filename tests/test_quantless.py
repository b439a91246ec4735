"""[55]: sayings without quantifiers that hold for the same rows."""

import random
import unittest

from allrows.deciding import fails, holds, true_at
from allrows.houses import House
from allrows.quantless import unquantified
from allrows.readers import Reader
from allrows.sayings import Saying
from allrows.terms import Term
from allrows.values import is_name
from support import END, HOME, LAST, ODD, Checks, is_small, random_house, random_saying, rows_of_names, small_sayings, tried


def said(text, house=HOME):
    return Saying.parse(house, text)


def words(saying):
    """All words of the forms of a saying and those within it."""
    inner = [part for part in saying.form[1:] if isinstance(part, Saying)]
    return [saying.form[0]] + [word for part in inner for word in words(part)]


def all_terms(saying):
    terms = [part for part in saying.form[1:] if isinstance(part, Term)]
    return terms + [term for part in saying.form[1:] if isinstance(part, Saying) for term in all_terms(part)]


class QuantlessTest(Checks, unittest.TestCase):
    def check_told(self, saying):
        told = unquantified(saying)
        self.assertNotIn("all", words(told))
        self.assertNotIn("some", words(told))
        self.assertEqual(told.names, saying.names)
        for term in all_terms(told):
            self.assertLessEqual(set(term.names), set(saying.names))
        self.check_house(saying.house, told.house)
        return told

    def check_house(self, house, further):
        self.assertEqual(further.signs, house.signs)
        self.assertEqual(further.counts, house.counts)
        self.assertEqual(further.readers[:len(house.readers)], house.readers)
        for name, reader in further.readers[len(house.readers):]:
            self.assertTrue(is_name(name))
            self.assertNotIn(name, house.names)
            own = [one for _, one in house.readers if (one.signs, one.marks, one.steps) == (reader.signs, reader.marks, reader.steps)]
            self.assertTrue(any(one.first != reader.first for one in own))

    def test_told_sayings(self):
        for text in ("for some yy ( odds(xx + yy) is odd and ends(xx + yy) is yes )", "for all yy odds(yy + xx + yy) is odds(xx)",
                     "for some yy ends(xx + yy) is ends(yy + back xx)", "( if odds(xx) is odd then for all yy odds(yy + xx) is odds(yy) )",
                     "for all zz ( odds(zz) is odd or for some yy odds(zz + yy + [b,a](xx)) is odd )"):
            told = self.check_told(said(text))
            for rows in rows_of_names(said(text)):
                self.assertIs(true_at(told, rows), tried(said(text), rows), text)

    def test_without_free_names(self):
        for text, truth in (("for all xx odds(xx + xx) is even", True), ("for all xx odds(xx) is even", False),
                            ("not for some xx odds(xx) is odd", False), ("for all xx for some yy odds(xx + yy) is odd", True)):
            told = self.check_told(said(text))
            self.assertEqual(told.names, ())
            self.assertIs(holds(told), truth)
            self.assertIs(true_at(unquantified(saying=said(text)), {}), truth)

    def test_part_without_free_names(self):
        told = self.check_told(said("( odds(xx) is even or for all xx odds(xx) is even )"))
        self.assertEqual(fails(told), (("xx", "a"),))
        told = self.check_told(said("( odds(xx) is even or for some xx odds(xx) is odd )"))
        self.assertIsNone(fails(told))

    def test_name_that_stands_nowhere(self):
        told = self.check_told(said("for all yy ends(xx) is yes"))
        self.assertEqual([row for row in ("", "a", "b", "ba", "ab") if true_at(told, {"xx": row})], ["a", "ba"])
        told = self.check_told(said("for some yy for all zz odds('a') is odd"))
        self.assertIs(holds(told), True)

    def test_bound_and_free_at_once(self):
        saying = said("( ends(xx) is yes and for some xx ( odds(xx + yy) is odd and ends(xx) is yes ) )")
        told = self.check_told(saying)
        for rows in rows_of_names(saying):
            self.assertIs(true_at(told, rows), tried(saying, rows))
        saying = said("for all xx ( if odds(xx) is even then for some xx ends(xx + yy) is no )")
        told = self.check_told(saying)
        for rows in rows_of_names(saying):
            self.assertIs(true_at(told, rows), tried(saying, rows))

    def test_without_quantifiers_already(self):
        saying = said("( if not odds(xx) is even then ends(back xx) is yes )")
        told = self.check_told(saying)
        for rows in rows_of_names(saying):
            self.assertIs(true_at(told, rows), true_at(saying, rows))

    def test_names_that_are_taken(self):
        house = House("ab", [("aa", LAST), ("ab", ODD), ("ad", END)])
        saying = said("for some yy ( aa(xx + yy) is so and ab(xx + yy) is odd )", house)
        told = self.check_told(saying)
        for rows in rows_of_names(saying):
            self.assertIs(true_at(told, rows), tried(saying, rows))

    def test_equal_readers(self):
        house = House("ab", [("one", END), ("two", END), ("three", Reader("ab", ["no", "yes"], "yes", [["yes", "no"], ["yes", "no"]]))])
        saying = said("for some yy ( one(back xx + yy) is two(yy + xx) and three(xx + yy) is yes )", house)
        told = self.check_told(saying)
        for rows in rows_of_names(saying):
            self.assertIs(true_at(told, rows), tried(saying, rows))

    def test_many_nots(self):
        saying = said("not " * 300 + "for some yy odds(xx + yy) is odd")
        self.assertIs(holds(self.check_told(saying)), True)
        self.assertIs(holds(self.check_told(saying.negated())), False)

    def test_random_sayings(self):
        chance = random.Random(55)
        count = 0
        while count < 120:
            house = random_house(chance, chance.choice(("a", "ab", "ab")), 3)
            saying = random_saying(chance, house, ("xx", "yy", "zz"), chance.randint(1, 3), 2)
            if not is_small(saying, 60) or not {"all", "some"} & set(words(saying)):
                continue
            count += 1
            told = self.check_told(saying)
            for rows in rows_of_names(saying, 0):
                self.assertIs(true_at(told, rows), tried(saying, rows), str(saying))

    def test_it_fails_at_the_same_rows(self):
        for saying in small_sayings(56, 60, 40, ("xx", "yy"), 3, 2):
            self.assertEqual(fails(unquantified(saying)), fails(saying))

    def test_again(self):
        saying = said("for some yy ends(xx + yy) is ends(yy + back xx)")
        self.assertEqual(unquantified(saying), unquantified(saying))
        self.assertEqual(unquantified(unquantified(saying)), unquantified(saying))


if __name__ == "__main__":
    unittest.main()
