"""[81], [82]: which lemmas of a book hang on which."""

import random
import unittest

from allrows.books import Book, untrue, wrong
from allrows.errors import NoName
from allrows.hangs import bears, cites, hangs_on, kept_for, rests, tainted, taken_out
from random_books import FALSE, HALL, TRUE, below, cited, random_book, said
from support import Checks, any_values

EVEN, SURE = TRUE[0], FALSE[0]


def telling(claim, *names):
    """Lines that cite these names."""
    return tuple((claim, ("told", name)) for name in names) or ((claim, None),)


# dd hangs on bb and aa, ee on cc alone
BOOK = Book(HALL, [("bb", EVEN, None), ("aa", EVEN, telling(EVEN, "bb")), ("cc", SURE, None), ("dd", EVEN, telling(EVEN, "bb", "aa")), ("ee", EVEN, telling(EVEN, "cc", "cc")),
                   ("ff", EVEN, telling(EVEN))])


class HangsTest(Checks, unittest.TestCase):
    def test_told_book(self):
        self.check_same((cites(BOOK, "dd"), cites(BOOK, "bb"), cites(book=BOOK, name="ee"), cites(BOOK, "ff")), (("aa", "bb"), (), ("cc",), ()))
        self.check_same((hangs_on(BOOK, "dd"), hangs_on(BOOK, "aa"), hangs_on(book=BOOK, name="cc")), (("aa", "bb"), ("bb",), ()))
        self.check_same((bears(BOOK, "bb"), bears(BOOK, "cc"), bears(book=BOOK, name="ff")), (("aa", "dd"), ("ee",), ()))
        self.check_same(taken_out(BOOK, ["aa", "cc"]).names, ("bb", "ff"))
        self.check_same(kept_for(BOOK, ("ff", "dd")).names, ("bb", "aa", "dd", "ff"))
        self.assertEqual((taken_out(book=BOOK, names=()), kept_for(book=BOOK, names=[])), (BOOK, Book(HALL)))
        self.check_same((tainted(BOOK), rests(BOOK)), (("cc", "ee"), ()))
        self.check_same((tainted(book=Book(HALL)), rests(book=Book(HALL))), ((), ()))
        self.check_same(rests(Book(HALL, [("cc", SURE, None), ("aa", EVEN, None), ("bb", EVEN, ((EVEN, None),)), ("dd", EVEN, telling(EVEN, "cc"))])), ("aa",))
        # an untrue one with lines, which hangs on nothing, taints nothing
        self.assertEqual(tainted(Book(HALL, [("aa", SURE, ((SURE, None),)), ("bb", SURE, telling(SURE, "aa"))])), ())
        # not through one of another kind: all that hang, true or not
        self.assertEqual(tainted(Book(HALL, [("bb", SURE, None), ("aa", EVEN, telling(EVEN, "bb")), ("cc", EVEN, telling(EVEN, "aa"))])), ("aa", "bb", "cc"))

    def test_by_definition(self):
        chance = random.Random(81)
        for _ in range(200):
            book = random_book(chance)
            lemmas = {name: lines for name, _, lines in book.lemmas}
            under = {name: below(book, name) for name in book.names}
            for name in book.names:
                self.check_same(cites(book, name), tuple(sorted(cited(lemmas[name]))))
                self.check_same(hangs_on(book, name), tuple(sorted(under[name])))
                self.check_same(bears(book, name), tuple(sorted(own for own in book.names if name in under[own])))
                self.assertEqual(taken_out(book, [name]), book.without(name))
                for own in book.names:
                    self.assertIsNot(own in taken_out(book, [name]).names, name in kept_for(book, [own]).names)
            names = [name for name in book.names if chance.random() < 0.4]
            chance.shuffle(names)
            self.assertEqual(taken_out(book, names).lemmas, tuple(lemma for lemma in book.lemmas if not ({lemma[0]} | under[lemma[0]]) & set(names)))
            wanted = {own for name in names for own in {name} | under[name]}
            self.assertEqual(kept_for(book, tuple(names)).lemmas, tuple(lemma for lemma in book.lemmas if lemma[0] in wanted))
            false = {name for name, _ in untrue(book) if lemmas[name] is None}
            self.check_same(tainted(book), tuple(sorted(name for name in book.names if ({name} | under[name]) & false)))
            if not wrong(book):
                self.assertLessEqual({name for name, _ in untrue(book)}, set(tainted(book)))
            used = {own for name in book.names for own in under[name]}
            self.check_same(rests(book), tuple(sorted(name for name in book.names if lemmas[name] is None and name not in used)))

    def test_other_names(self):
        for value in any_values() + ["none", ["bb"], ("bb",)]:
            if value != "aa":
                for call in (cites, hangs_on, bears, lambda book, name: taken_out(book, ["bb", name, "none"]), lambda book, name: kept_for(book, ("bb", name, None))):
                    self.check_error(NoName, lambda: call(BOOK, value), name=value)
        self.check_error(NoName, lambda: cites(Book(HALL), "aa"), name="aa")


if __name__ == "__main__":
    unittest.main()
