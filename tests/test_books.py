"""[74] to [80]: books of lemmas, which are wrong or untrue, whole deductions, mended books, two books in one."""

import random
import unittest

from allrows.books import Book, both_books, cited_names, guilty, mended_book, untrue, whole_lines, wrong
from allrows.deciding import fails, holds
from allrows.deductions import deduction_of, filled
from allrows.errors import InvalidBook, NoName, RowError
from allrows.heights import at_most
from allrows.houses import House
from allrows.looker import deduction_holds
from allrows.sums import Sum, worth
from allrows.terms import Term
from random_books import FALSE, HALL, TRUE, bound, cited, random_book, random_lemmas, said
from support import HOME, ODD, Checks, any_values

EVEN, SURE = said("odds(row + row) is even"), said("odds(row) is even")
TWICE = ((SURE, ("told", "sure")), (EVEN, ("put", 0, "row", Term.of_name("row") + Term.of_name("row"))))
BOOK = Book(HALL, [("sure", SURE, None), ("twice", EVEN, TWICE)])


def is_true(claim):
    return at_most(claim[1], claim[3], claim[2]) if isinstance(claim, tuple) else holds(claim)


def is_right(book, at):
    """By definition, for the lemma with a number."""
    name, claim, lines = book.lemmas[at]
    return lines is None or deduction_holds(claim, lines, [(own, told) for own, told, _ in book.lemmas[:at]])


class BookTest(Checks, unittest.TestCase):
    def test_arguments(self):
        lemmas = [("sure", SURE, None), ("twice", EVEN, TWICE)]
        book = Book(HALL, lemmas)
        self.check_same(book.lemmas, tuple(lemmas))
        self.assertEqual(book.house, HALL)
        self.check_same(book.names, ("sure", "twice"))
        self.assertEqual(len(book), 2)
        self.assertEqual(Book(lemmas=tuple(lemmas), house=HALL), book)
        self.assertEqual(book, BOOK)
        self.check_same((Book(HALL).lemmas, Book(HALL).names, len(Book(HALL))), ((), (), 0))
        self.assertNotEqual(Book(HALL, lemmas[:1]), book)
        self.assertNotEqual(Book(HALL), Book(HOME))
        self.assertNotEqual(Book(HALL, [("sure", SURE, None), ("twice", EVEN, None)]), book)
        for value in any_values():
            self.assertIs(book == value, False)
        with self.assertRaises(TypeError):
            iter(book)
        self.assertTrue(issubclass(InvalidBook, RowError))

    def test_later_changes(self):
        why = ["told", ["aa"]]
        lemmas = [("sure", SURE, ((SURE, why), (SURE, ("tree", (0, why)))))]
        book = Book(HALL, lemmas)
        lemmas.append(("twice", EVEN, None))
        why[1].append("bb")
        why.append(3)
        self.check_same(book.lemmas, (("sure", SURE, ((SURE, ["told", ["aa"]]), (SURE, ("tree", (0, ["told", ["aa"]]))))),))

    def test_wrong_houses(self):
        for value in any_values():
            if not isinstance(value, House):
                self.check_error(InvalidBook, lambda: Book(value, None), word="house")

    def test_wrong_lemmas(self):
        for value in any_values():
            if value not in ((), []):
                self.check_error(InvalidBook, lambda: Book(HALL, value), word="lemmas")
        line = (SURE, ("told", "sure"))
        for lemmas in (
                # none at all
                [("sure", SURE)], [["sure", SURE, None]], [("sure", SURE, None, None)], [(SURE, "sure", None)], {"sure": SURE}, [("is", SURE, None)],
                [("s", SURE, None)], [(None, SURE, None)], [("sure", None, None)], [("sure", "odds(row) is even", None)], [("sure", (), None)],
                [("sure", said("odds(row) is even", HOME), None)], [("sure", SURE, 0)], [("sure", SURE, False)], [("sure", SURE, "told")],
                # lines that are no deduction
                [("sure", SURE, ())], [("sure", SURE, [(SURE, None)])], [("sure", SURE, ((SURE,),))], [("sure", SURE, ([SURE, None],))], [("sure", SURE, ((SURE, None, None),))],
                [("sure", SURE, (SURE, None))], [("sure", SURE, ((SURE, None), None))], [("sure", SURE, ((None, None),))],
                [("sure", SURE, ((said("odds(row) is even", HOME), None),))],
                # claims with bounds
                [("sure", ("bound", Sum([]), 1.0, SURE), None)], [("sure", ("bound", Sum([]), True, SURE), None)], [("sure", ["bound", Sum([]), 1, SURE], None)],
                [("sure", ("bound", Sum([]), 1), None)], [("sure", ("bounds", Sum([]), 1, SURE), None)], [("sure", ("bound", "0", 1, SURE), None)],
                [("sure", ("bound", Sum([]), 1, None), None)], [("sure", ("bound", Sum.parse("ab", "1 * deep(row)"), 1, SURE), None)],
                [("sure", ("bound", Sum.parse("abc", "1 * size('c')"), 1, SURE), None)], [("sure", ("bound", Sum([]), 1, said("odds(row) is even", HOME)), None)],
                # a name twice
                [("sure", SURE, None), ("sure", SURE, None)], [("sure", SURE, None), ("twice", EVEN, TWICE), ("sure", EVEN, None)],
                # cited: itself, a later one, a name that is not there
                [("sure", SURE, (line,))], [("twice", EVEN, TWICE), ("sure", SURE, None)], [("twice", EVEN, TWICE)],
                [("sure", SURE, None), ("twice", EVEN, ((SURE, ("told", "none")), *TWICE))], [("sure", SURE, None), ("twice", EVEN, (*TWICE, (SURE, ("told", "twice"))))]):
            self.check_error(InvalidBook, lambda: Book(HALL, lemmas), word="lemmas")
            self.check_error(InvalidBook, lambda: Book(HALL, [("first", SURE, None), *lemmas]), word="lemmas")

    def test_lemmas_that_may_be(self):
        # lines are not looked at: wrong ones, and such as end with another claim
        for lines in (((SURE, None),), ((EVEN, ("told", "sure")),), ((SURE, ("cases", (7,))),), ((SURE, ["told", "none"]),), ((SURE, ("told", "none", 0)),),
                      ((SURE, ("told",)),), ((SURE, ("told", 0)),), ((SURE, ("told", ("none",))),), ((SURE, "told"),), ((SURE, ("told", "not")),),
                      ((SURE, ("told", "a1")),), ((SURE, ("tree", ("told", "none"))),), ((bound("1 * size(row)", 3), ("heights", 4)),)):
            book = Book(HALL, [("sure", SURE, None), ("twice", EVEN, lines)])
            self.assertEqual(book.lines_of("twice"), lines)
        self.assertEqual(Book(HALL, [("sure", claim, None) for claim in (bound("1 * size(row)", 3),)]).claim_of("sure"), bound("1 * size(row)", 3))

    def test_cited_names(self):
        self.check_same(cited_names(lines=None), ())
        self.check_same(cited_names(TWICE), ("sure",))
        lines = tuple((SURE, why) for why in (("told", "cc"), ("told", "aa"), ["told", "bb"], ("told", "cc"), ("told", "bb", 0), None, "told", ("told",),
                                              ("told", 3), ("told", ["dd"]), ("told", "is"), ("told", "ee"), ("tree", "ff"), ("cases", (0,))))
        self.check_same(cited_names(lines), ("cc", "aa", "ee"))
        chance = random.Random(73)
        for _ in range(100):
            for name, claim, lines in random_book(chance).lemmas:
                self.assertEqual(set(cited_names(lines)), cited(lines))
                self.assertEqual(len(cited_names(lines)), len(cited(lines)))

    def test_names(self):
        self.assertEqual(BOOK.claim_of("sure"), SURE)
        self.assertEqual(BOOK.claim_of(name="twice"), EVEN)
        self.assertIsNone(BOOK.lines_of("sure"))
        self.check_same(BOOK.lines_of(name="twice"), TWICE)
        for value in any_values() + ["none", "Sure", ["sure"], ("sure",), ("sure", SURE, None)]:
            for call in (BOOK.claim_of, BOOK.lines_of, BOOK.without, BOOK.told_only, lambda one: whole_lines(BOOK, one)):
                self.check_error(NoName, lambda: call(value), name=value)
        self.check_error(NoName, lambda: Book(HALL).claim_of("sure"), name="sure")

    def test_having(self):
        more = BOOK.having("more", EVEN, None)
        self.assertEqual(more.lemmas, (*BOOK.lemmas, ("more", EVEN, None)))
        # in the place of one that others cite
        changed = BOOK.having(name="sure", claim=EVEN, lines=((EVEN, None),))
        self.assertEqual(changed.lemmas, (("sure", EVEN, ((EVEN, None),)), BOOK.lemmas[1]))
        self.assertEqual(wrong(changed), ("sure", "twice"))
        self.assertEqual(BOOK.having("twice", EVEN, None).lemmas, (BOOK.lemmas[0], ("twice", EVEN, None)))
        self.assertEqual(BOOK.having("sure", SURE, None), BOOK)
        self.assertEqual(len(BOOK), 2)
        for name, claim, lines in (("sure", EVEN, TWICE), ("twice", EVEN, ((EVEN, ("told", "twice")),)), ("more", EVEN, ((EVEN, ("told", "none")),)),
                                   ("sure", EVEN, ((EVEN, ("told", "twice")),)), ("is", EVEN, None), ("more", said("odds('a') is odd", HOME), None), ("more", EVEN, ())):
            self.check_error(InvalidBook, lambda: BOOK.having(name, claim, lines), word="lemmas")
        for value in any_values():
            self.check_error(InvalidBook, lambda: BOOK.having("more", value, None), word="lemmas")
            if not (isinstance(value, str) and value in ("aa", "ab", "ba", "abc", "xx")):
                self.check_error(InvalidBook, lambda: BOOK.having(value, EVEN, None), word="lemmas")
            if value is not None:
                self.check_error(InvalidBook, lambda: BOOK.having("more", EVEN, value), word="lemmas")

    def test_without(self):
        self.check_same(BOOK.without("sure").names, ())
        self.assertEqual(BOOK.without(name="twice").lemmas, BOOK.lemmas[:1])
        chance = random.Random(75)
        for _ in range(100):
            book = random_book(chance)
            for name in book.names:
                gone = {name}
                for own, _, lines in book.lemmas:
                    if cited(lines) & gone:
                        gone.add(own)
                self.assertEqual(book.without(name).lemmas, tuple(lemma for lemma in book.lemmas if lemma[0] not in gone))
                told = tuple((own, claim, None if own == name else lines) for own, claim, lines in book.lemmas)
                self.assertEqual(book.told_only(name=name), Book(HALL, told))


class RightTest(Checks, unittest.TestCase):
    def test_told_books(self):
        self.check_same((wrong(BOOK), untrue(book=BOOK), guilty(BOOK)), ((), (("sure", (("row", "a"),)),), "sure"))
        self.check_same((wrong(book=Book(HALL)), untrue(Book(HALL)), guilty(book=Book(HALL))), ((), (), None))
        # the guilty one stands behind right ones, and ahead of right ones that are not true
        lemmas = [("fine", EVEN, deduction_of(EVEN)), ("wrong", EVEN, ((EVEN, None),)), ("bad", SURE, ((SURE, ("cases", ())),)), ("worse", SURE, ((SURE, ("told", "bad")),)),
                  ("told", FALSE[1], None)]
        book = Book(HALL, lemmas)
        self.check_same((wrong(book), guilty(book)), (("wrong", "bad"), "bad"))
        self.check_same(untrue(book), (("bad", (("row", "a"),)), ("worse", (("row", "a"),)), ("told", ())))
        # lines of another claim are wrong
        self.assertEqual(wrong(Book(HALL, [("aa", EVEN, deduction_of(TRUE[1]))])), ("aa",))
        # a lemma ahead is cited by name and claim, whether it has lines or not
        for lines in (None, deduction_of(EVEN), ((EVEN, None),)):
            self.assertNotIn("bb", wrong(Book(HALL, [("aa", EVEN, lines), ("bb", EVEN, ((EVEN, ("told", "aa")),))])))
            self.assertIn("bb", wrong(Book(HALL, [("aa", EVEN, lines), ("bb", SURE, ((SURE, ("told", "aa")),))])))

    def test_bounds(self):
        good, bad = TRUE[3], FALSE[2]
        book = Book(HALL, [("aa", good, deduction_of(good)), ("bb", bad, None), ("cc", good, ((good, ("told", "aa")),)), ("dd", bad, ((bad, ("heights", ())),))])
        self.assertEqual(wrong(book), ("dd",))
        self.assertEqual([name for name, _ in untrue(book)], ["bb", "dd"])
        rows = dict(untrue(book)[0][1])
        self.assertEqual(ODD.read(rows["row"]), "odd")
        self.assertGreater(worth(HALL, bad[1], rows), 7)
        self.assertEqual(guilty(book), "bb")

    def test_by_definition(self):
        chance = random.Random(76)
        good = 0
        for _ in range(150):
            book = random_book(chance)
            right = [is_right(book, at) for at in range(len(book))]
            self.check_same(wrong(book), tuple(name for name, is_good in zip(book.names, right) if not is_good))
            failing = [name for name, claim, _ in book.lemmas if not is_true(claim)]
            told = untrue(book)
            self.assertEqual([name for name, _ in told], failing)
            for name, rows in told:
                if not isinstance(book.claim_of(name), tuple):
                    self.check_same(rows, fails(book.claim_of(name)))
            laid = [name for name in failing if book.lines_of(name) is None or name in wrong(book)]
            self.assertEqual(guilty(book), laid[0] if laid else None)
            if failing:
                self.assertLessEqual(book.names.index(guilty(book)), book.names.index(failing[0]))
            if not wrong(book) and all(is_true(claim) for _, claim, lines in book.lemmas if lines is None):
                good += 1
                self.assertEqual(told, ())
        self.assertGreater(good, 10)

    def test_a_claim_is_a_face(self):
        chance = random.Random(77)
        for _ in range(60):
            book = random_book(chance)
            for name in book.names:
                self.assertEqual([own for own in wrong(book.told_only(name)) if own != name], [own for own in wrong(book) if own != name])


class WholeTest(Checks, unittest.TestCase):
    def test_told_books(self):
        self.check_same(whole_lines(BOOK, "sure"), ())
        self.check_same(whole_lines(book=BOOK, name="twice"), TWICE)
        # first the last lemma is filled in, then the one ahead of it, on which both hang
        book = Book(HALL, [("aa", EVEN, deduction_of(EVEN)), ("bb", EVEN, ((EVEN, ("told", "aa")),)), ("xx", SURE, None),
                           ("cc", EVEN, ((EVEN, ("told", "aa")), (SURE, ("told", "xx")), (EVEN, ("told", "bb")), (EVEN, ("cases", (0, 2)))))])
        self.check_same(whole_lines(book, "cc"), (deduction_of(EVEN)[0], (SURE, ("told", "xx")), (EVEN, ("cases", (0, 0)))))
        self.assertEqual(whole_lines(book, "bb"), deduction_of(EVEN))
        # cited by name, but it has no lines
        self.check_same(whole_lines(book.told_only("aa"), "bb"), ((EVEN, ("told", "aa")),))

    def test_by_definition(self):
        chance = random.Random(78)
        whole = 0
        for _ in range(150):
            book = random_book(chance)
            right = {name for at, name in enumerate(book.names) if is_right(book, at)}
            for at, (name, claim, lines) in enumerate(book.lemmas):
                told = whole_lines(book, name)
                if lines is None:
                    self.check_same(told, ())
                    continue
                own = lines
                for other, _, further in reversed(book.lemmas[:at]):
                    if other in cited(own) and further is not None:
                        own = filled(own, other, further)
                self.assertEqual(told, own)
                hung = {name} | self.below(book, name)
                # a line that only tells the last claim may be left out, others then end the lines
                if hung <= right and told[-1][0] == claim:
                    whole += 1
                    self.assertIs(deduction_holds(claim, told, [(own, book.claim_of(own)) for own in book.names if book.lines_of(own) is None]), True)
        self.assertGreater(whole, 100)

    def below(self, book, name):
        found = set()
        for own in cited(book.lines_of(name)):
            found |= {own} | self.below(book, own)
        return found


class MendedTest(Checks, unittest.TestCase):
    def test_told_books(self):
        better = mended_book(BOOK)
        self.check_same((better.names, [why[0] for _, why in better.lines_of("twice")]), (("twice",), ["tree"]))
        self.assertEqual(mended_book(book=Book(HALL)), Book(HALL))
        # a told one that is true stays told, and right lines stay
        book = Book(HALL, [("aa", EVEN, None), ("bb", EVEN, ((EVEN, ("told", "aa")),)), ("cc", EVEN, ((EVEN, None),)), ("dd", EVEN, ((EVEN, ("told", "cc")),))])
        self.assertEqual(mended_book(book), book.having("cc", EVEN, deduction_of(EVEN)))

    def test_by_definition(self):
        chance = random.Random(79)
        for _ in range(120):
            book = random_book(chance)
            told = mended_book(book)
            self.assertEqual((wrong(told), untrue(told), guilty(told)), ((), (), None))
            left = [at for at, (_, claim, _) in enumerate(book.lemmas) if is_true(claim)]
            names = {book.names[at] for at in left}
            self.assertEqual(told.names, tuple(book.names[at] for at in left))
            for at in left:
                name, claim, lines = book.lemmas[at]
                is_kept = is_right(book, at) and cited(lines) <= names
                self.assertEqual((told.claim_of(name), told.lines_of(name)), (claim, lines if is_kept else deduction_of(claim)))
            self.assertEqual(mended_book(told), told)


class BothTest(Checks, unittest.TestCase):
    def test_told_books(self):
        one = Book(HALL, [("aa", EVEN, None), ("bb", SURE, None), ("cc", EVEN, ((EVEN, None),))])
        other = Book(HALL, [("bb", SURE, ((SURE, None),)), ("dd", EVEN, ((EVEN, ("told", "bb")),)), ("cc", EVEN, ((EVEN, ("told", "dd")),))])
        told = both_books(one, other)
        self.assertEqual(told.lemmas, (one.lemmas[0], other.lemmas[0], one.lemmas[2], other.lemmas[1]))
        # lines that cite what does not stand ahead in the one are left aside
        further = Book(HALL, [("ee", EVEN, None), ("aa", EVEN, ((EVEN, ("told", "ee")),))])
        self.assertEqual(both_books(one=one, other=further).lemmas, (*one.lemmas, further.lemmas[0]))
        further = Book(HALL, [("bb", SURE, None), ("aa", EVEN, ((SURE, ("told", "bb")), (EVEN, None)))])
        self.assertEqual(both_books(one, further), one)
        self.assertEqual(both_books(further, one).lemmas, (*further.lemmas, one.lemmas[2]))
        self.assertEqual(both_books(one, Book(HALL)), one)
        self.assertEqual(both_books(Book(HALL), one), one)

    def test_errors(self):
        one, other = Book(HALL, [("aa", EVEN, None)]), Book(HALL, [("aa", SURE, None)])
        self.check_error(InvalidBook, lambda: both_books(one, other), word="lemmas")
        self.check_error(InvalidBook, lambda: both_books(one, Book(HOME)), word="house")
        # two claims of one name, in unlike houses: of each claim the house is another one
        self.check_error(InvalidBook, lambda: both_books(one, Book(HOME, [("aa", said("odds(row) is even", HOME), None)])), word="house")
        self.assertEqual(both_books(one, Book(House.parse(str(HALL)), [("aa", said(str(EVEN), House.parse(str(HALL))), None)])), one)

    def test_by_definition(self):
        chance = random.Random(80)
        given = clashes = 0
        for _ in range(600):
            lemmas, others = random_lemmas(chance, 5, TRUE[:2]), random_lemmas(chance, 5, TRUE[:2])
            one, other = Book(HALL, lemmas), Book(HALL, others)
            claims = {name: claim for name, claim, _ in lemmas}
            if any(claims.get(name, claim) != claim for name, claim, _ in others):
                clashes += 1
                self.check_error(InvalidBook, lambda: both_books(one, other), word="lemmas")
                continue
            wanted = []
            for at, (name, claim, lines) in enumerate(lemmas):
                further = {own: told for own, _, told in others}.get(name)
                if lines is None and further is not None and cited(further) <= {own for own, _, _ in lemmas[:at]}:
                    lines = further
                    given += 1
                wanted.append((name, claim, lines))
            wanted += [lemma for lemma in others if lemma[0] not in claims]
            self.assertEqual(both_books(one, other), Book(HALL, wanted))
        self.assertTrue(given > 10 and clashes > 30, (given, clashes))


if __name__ == "__main__":
    unittest.main()
