"""[83], [84]: what told lemmas are enough, roads to lemmas, orders."""

import random
import unittest
from itertools import combinations, permutations

from allrows.bases import bases, cuts, is_enough, is_order, orders, road_to, road_to_holds
from allrows.books import Book
from allrows.errors import NoName
from random_books import FALSE, HALL, TRUE, cited, random_book
from support import Checks, any_values
from test_hangs import telling

ONE, TWO, THREE, FOUR, FIVE = *TRUE[:3], *FALSE[:2]
TOLD = [("aa", ONE, None), ("bb", TWO, None), ("cc", THREE, None)]
BOOK = Book(HALL, TOLD + [("dd", FOUR, telling(FOUR, "aa", "bb")), ("ee", FOUR, telling(FOUR, "cc")), ("ff", FIVE, telling(FIVE, "dd"))])


def told_names(book):
    return sorted(name for name, _, lines in book.lemmas if lines is None)


def shown(book, names):
    """The claims that are shown, by going through all lemmas again and again."""
    claims = {name: claim for name, claim, _ in book.lemmas}
    found = [claim for name, claim, lines in book.lemmas if lines is None and name in names]
    for _ in book.lemmas:
        found += [claim for _, claim, lines in book.lemmas if lines is not None and all(claims[own] in found for own in cited(lines))]
    return found


def least(lots):
    """Those lots no part of which is one, shorter ones first, then ascending."""
    return tuple(sorted((lot for lot in lots if not any(set(less) < set(lot) for less in lots)), key=lambda lot: (len(lot), lot)))


def all_lots(names):
    return [lot for length in range(len(names) + 1) for lot in combinations(names, length)]


def is_road(book, name, value):
    claims = {own: claim for own, claim, _ in book.lemmas}
    lines = {own: told for own, _, told in book.lemmas}
    if not value or len(set(value)) < len(value) or claims[value[-1]] != claims[name]:
        return False
    return all(all(claims[one] in [claims[other] for other in value[:at]] for one in cited(lines[own])) for at, own in enumerate(value))


class BasesTest(Checks, unittest.TestCase):
    def test_told_book(self):
        self.check_same((bases(BOOK, "ff"), cuts(BOOK, "ff")), ((("cc",), ("aa", "bb")), (("aa", "cc"), ("bb", "cc"))))
        self.check_same((bases(book=BOOK, name="aa"), cuts(book=BOOK, name="aa")), ((("aa",),), (("aa",),)))
        for names, is_right in ((["cc"], True), (("bb", "aa"), True), (["aa"], False), ((), False), (["aa", "bb", "cc"], True)):
            self.assertIs(is_enough(book=BOOK, name="ff", names=names), is_right)
        # lemmas with lines are not told ones
        self.assertIs(is_enough(BOOK, "ff", ["dd", "ee"]), False)

    def test_none_needed_and_none_enough(self):
        sure = Book(HALL, [("aa", ONE, None), ("bb", ONE, telling(ONE)), ("cc", TWO, telling(TWO, "aa"))])
        for name in ("aa", "bb", "cc"):
            self.check_same((bases(sure, name), cuts(sure, name)), (((),), ()))
            self.assertIs(is_enough(sure, name, []), True)
        self.check_same((bases(BOOK, "dd"), bases(BOOK, "ee")), (bases(BOOK, "ff"),) * 2)
        # lemmas with equal claims, one of them with lines that need the other one alone
        book = Book(HALL, [("bb", ONE, None), ("aa", ONE, None), ("cc", ONE, telling(ONE, "bb")), ("dd", TWO, telling(TWO, "cc"))])
        self.check_same((bases(book, "dd"), cuts(book, "dd")), ((("aa",), ("bb",)), (("aa", "bb"),)))
        # a later one with an equal claim, which needs less
        book = Book(HALL, [("aa", ONE, None), ("bb", TWO, telling(TWO, "aa")), ("cc", ONE, telling(ONE)), ("dd", TWO, None)])
        self.check_same((bases(book, "bb"), cuts(book, "bb"), bases(book, "aa")), (((),), (), ((),)))

    def test_something_is_always_enough(self):
        # two claims that stand for each other in a ring, of which one is shown by itself elsewhere
        book = Book(HALL, [("aa", THREE, telling(THREE)), ("bb", TWO, telling(TWO, "aa")), ("cc", ONE, telling(ONE, "bb")), ("dd", THREE, telling(THREE, "cc"))])
        for name in book.names:
            self.check_same((bases(book, name), cuts(book, name)), (((),), ()))
        chance = random.Random(83)
        for _ in range(50):
            book = random_book(chance)
            for name in book.names:
                self.assertNotEqual(bases(book, name), ())
                self.assertIs(is_enough(book, name, told_names(book)), True)

    def test_by_definition(self):
        chance = random.Random(84)
        several = 0
        for claims in [None, TRUE[:3], TRUE[:2]] * 60:
            book = random_book(chance, 8, claims)
            told = told_names(book)
            lots = {lot: shown(book, lot) for lot in all_lots(told)}
            for name in book.names:
                claim = book.claim_of(name)
                enough = [lot for lot, found in lots.items() if claim in found]
                for lot in chance.sample(list(lots), min(4, len(lots))):
                    names = list(lot)
                    chance.shuffle(names)
                    self.assertIs(is_enough(book, name, names), lot in enough)
                self.check_same(bases(book, name), least(enough))
                without = [lot for lot in lots if tuple(own for own in told if own not in lot) not in enough]
                self.check_same(cuts(book, name), least(without))
                several += len(bases(book, name)) > 1
        self.assertGreater(several, 30)

    def test_other_names(self):
        for value in any_values() + ["none", ["bb"], ("bb",)]:
            if value not in ("aa",):
                for call in (bases, cuts, road_to, lambda book, name: road_to_holds(book, name, None), lambda book, name: is_enough(book, name, [None]),
                             lambda book, name: is_enough(book, "ff", ["aa", name, "none"])):
                    self.check_error(NoName, lambda: call(BOOK, value), name=value)


class RoadsTest(Checks, unittest.TestCase):
    def test_told_roads(self):
        self.check_same(road_to(BOOK, "ff"), ("cc", "ee", "ff"))
        self.check_same(road_to(book=BOOK, name="bb"), ("bb",))
        self.check_same(road_to(BOOK, "dd"), ("cc", "ee"))
        # to an equal claim that is told
        self.assertEqual(road_to(Book(HALL, [*TOLD, ("dd", ONE, telling(ONE, "bb", "cc"))]), "dd"), ("aa",))
        for value, is_right in ((("cc", "ee", "ff"), True), (("aa", "bb", "dd", "ff"), True), (("bb", "aa", "cc", "dd", "ee", "ff"), True), (("cc", "ee", "aa", "ff"), True),
                                (("ff",), False), ((), False), (("cc", "ff"), False), (("ee", "cc", "ff"), False), (["cc", "ee", "ff"], False), (("cc", "ee", "ff", "aa"), False),
                                (("cc", "ee", "ee", "ff"), False), (("cc", "cc", "ee", "ff"), False), (("cc", "ee"), False), (("none", "cc", "ee", "ff"), False),
                                (("cc", "ee", "ff", None), False), (("cc", "ee", ["ff"]), False), ("ccee", False)):
            self.assertIs(road_to_holds(BOOK, "ff", value), is_right, value)
        # any lemma with the claim ends it, and stands for the other
        self.assertIs(road_to_holds(book=BOOK, name="dd", value=("cc", "ee")), True)
        self.assertIs(road_to_holds(BOOK, "ee", ("aa", "bb", "dd")), True)

    def test_any_values(self):
        for value in any_values():
            self.assertIs(road_to_holds(BOOK, "ff", value), False)
            self.assertIs(road_to_holds(BOOK, "ff", (value, "cc", "ee", "ff")), value == "aa")
            self.assertIs(is_order(BOOK, value), False)
            self.assertIs(is_order(BOOK, ("aa", "bb", "cc", "dd", "ee", value)), False)
            self.assertIs(is_order(Book(HALL), value), value == () and value != [])

    def test_by_definition(self):
        chance = random.Random(85)
        short = 0
        for claims in [None, TRUE[:3]] * 40:
            book = random_book(chance, 6, claims)
            roads = [value for length in range(1, 5) for value in permutations(book.names, length)]
            for name in book.names:
                told = road_to(book, name)
                self.assertIsInstance(told, tuple)
                self.assertTrue(is_road(book, name, told))
                self.assertIs(road_to_holds(book, name, told), True)
                self.assertFalse(any(is_road(book, name, value) for value in roads if len(value) < len(told)))
                short += len(told) < len([own for own in book.names])
                for value in chance.sample(roads, min(20, len(roads))):
                    self.assertIs(road_to_holds(book, name, value), is_road(book, name, value), value)
        self.assertGreater(short, 50)


class OrdersTest(Checks, unittest.TestCase):
    def test_told_orders(self):
        self.assertEqual(orders(BOOK), 30)
        self.assertEqual((orders(book=Book(HALL)), orders(Book(HALL, TOLD))), (1, 6))
        for value, is_right in ((("aa", "bb", "cc", "dd", "ee", "ff"), True), (("cc", "ee", "bb", "aa", "dd", "ff"), True), (("cc", "ee", "bb", "dd", "aa", "ff"), False),
                                (["aa", "bb", "cc", "dd", "ee", "ff"], False), (("aa", "bb", "cc", "dd", "ee"), False), (("aa", "bb", "cc", "dd", "ee", "ff", "aa"), False),
                                (("aa", "aa", "cc", "dd", "ee", "ff"), False), (("aa", "bb", "cc", "dd", "ff", "ee"), True), (("aa", "bb", "cc", "dd", "ee", "gg"), False)):
            self.assertIs(is_order(book=BOOK, names=value), is_right, value)
        self.assertIs(is_order(Book(HALL), ()), True)
        self.assertIs(is_order(Book(HALL), []), False)
        self.assertIs(is_order(BOOK, BOOK.names), True)
        self.assertIs(is_order(BOOK, BOOK.names[::-1]), False)

    def test_by_definition(self):
        chance = random.Random(86)
        for _ in range(40):
            book = random_book(chance, 6)
            lines = {name: told for name, _, told in book.lemmas}
            found = 0
            for value in permutations(book.names):
                is_right = all(cited(lines[name]) <= set(value[:at]) for at, name in enumerate(value))
                found += is_right
                if is_right or chance.random() < 0.1:
                    self.assertIs(is_order(book, value), is_right)
            self.assertEqual(orders(book), found)


if __name__ == "__main__":
    unittest.main()
