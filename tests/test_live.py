"""[85], [86]: live books, their deeds, and deeds taken back."""

import random
import unittest

from allrows.books import Book, mended_book, untrue, wrong
from allrows.claims import failing_rows
from allrows.deciding import fails
from allrows.deductions import deduction_of
from allrows.errors import InvalidBook, NoName, Refused, RowError
from allrows.live import Live
from allrows.looker import first_wrong
from allrows.sums import worth
from random_books import FALSE, HALL, NAMES, TRUE, bound, random_book, random_lines, said
from support import HOME, ODD, Checks, any_values
from test_hangs import telling

EVEN, TURN, SURE = TRUE[0], TRUE[1], FALSE[0]


class LiveTest(Checks, unittest.TestCase):
    def check_refused(self, live, error, call, **attributes):
        """The call raises, and nothing changes by it."""
        book, many = live.book, len(live)
        self.check_error(error, call, **attributes)
        self.assertEqual((live.book, len(live)), (book, many))

    def test_show(self):
        live = Live(Book(HALL))
        self.assertIsNone(live.show("twice", EVEN))
        self.assertEqual(live.book, Book(HALL, [("twice", EVEN, deduction_of(EVEN))]))
        self.check_same(live.show(name="wrong", claim=SURE), (("row", "a"),))
        self.check_same(live.show("wrong", said("odds('a') is even")), ())
        self.check_same((live.book.names, len(live)), (("twice",), 1))
        # in the place of a told one
        live.take("turn", TURN)
        live.take("more", EVEN)
        self.assertIsNone(live.show("turn", TURN))
        self.assertEqual(live.book.lemmas[1:], (("turn", TURN, deduction_of(TURN)), ("more", EVEN, None)))
        self.assertEqual(len(live), 4)

    def test_show_bounds(self):
        live = Live(book=Book(HALL))
        self.assertIsNone(live.show("high", TRUE[3]))
        rows = live.show("low", FALSE[2])
        self.assertEqual([name for name, _ in rows], ["row"])
        self.assertEqual(ODD.read(dict(rows)["row"]), "odd")
        self.assertGreater(worth(HALL, FALSE[2][1], dict(rows)), 7)
        self.check_same(live.book.names, ("high",))
        self.check_same(live.show("low", bound("1 * size('a')", 0)), (("row", ""),))

    def test_take_and_put(self):
        live = Live(Book(HALL))
        self.assertIsNone(live.take(name="sure", claim=SURE))
        self.assertIsNone(live.put("told", EVEN, None))
        self.assertIsNone(live.put(name="two", claim=SURE, lines=telling(SURE, "sure")))
        self.assertEqual(live.book.lemmas, (("sure", SURE, None), ("told", EVEN, None), ("two", SURE, telling(SURE, "sure"))))
        self.assertEqual(len(live), 3)
        # lemmas that are cited are taken as told, whether they have lines or not
        self.assertIsNone(live.put("three", SURE, telling(SURE, "two")))
        # of lines that are not right the first one is told, then that the last claim is another one
        lines = (*telling(SURE, "sure"), *telling(EVEN, "told"))
        self.check_refused(live, Refused, lambda: live.put("four", EVEN, (*lines, (EVEN, ("cases", (0,))), (EVEN, None))), at=2)
        self.check_refused(live, Refused, lambda: live.put("four", SURE, lines), at=2)
        self.check_refused(live, Refused, lambda: live.put("four", SURE, telling(EVEN, "sure")), at=0)
        self.assertIsNone(live.put("four", EVEN, lines))
        # a lemma that is there may only cite what stands ahead of it
        self.check_refused(live, InvalidBook, lambda: live.put("sure", SURE, telling(SURE, "two")), word="lemmas")
        self.check_refused(live, InvalidBook, lambda: live.put("sure", SURE, telling(SURE, "sure")), word="lemmas")
        self.assertIsNone(live.put("two", SURE, None))
        self.assertIsNone(live.put("told", EVEN, deduction_of(EVEN)))
        self.assertEqual((wrong(live.book), len(live)), ((), 7))

    def test_order_of_errors(self):
        live = Live(Book(HALL, [("aa", EVEN, None), ("bb", SURE, None)]))
        for name, claim in (("bb", SURE), ("cc", EVEN), ("aa", SURE)):
            # no lemma at all ahead of all else
            self.check_refused(live, InvalidBook, lambda: live.put(name, claim, ()), word="lemmas")
            self.check_refused(live, InvalidBook, lambda: live.put(name, claim, telling(claim, "none")), word="lemmas")
        for call in (lambda: live.show("bb", EVEN), lambda: live.show("bb", FALSE[1]), lambda: live.take("bb", EVEN), lambda: live.put("bb", EVEN, None),
                     lambda: live.put("bb", EVEN, deduction_of(EVEN)), lambda: live.put("bb", EVEN, ((EVEN, None),))):
            # another claim ahead of lines that are not right
            self.check_refused(live, Refused, call, at=1)
        self.check_refused(live, Refused, lambda: live.take("aa", SURE), at=0)
        self.check_refused(live, Refused, lambda: live.put("bb", SURE, ((SURE, ("cases", ())),)), at=0)
        self.assertTrue(issubclass(Refused, RowError))
        for value in any_values():
            for call in (live.show, live.take, lambda name, claim: live.put(name, claim, None), lambda name, claim: live.put(name, claim, deduction_of(EVEN))):
                self.check_refused(live, InvalidBook, lambda: call("cc", value), word="lemmas")
                if not (isinstance(value, str) and value in ("aa", "ab", "ba", "abc", "xx")):
                    self.check_refused(live, InvalidBook, lambda: call(value, EVEN), word="lemmas")
            if value is not None:
                self.check_refused(live, InvalidBook, lambda: live.put("cc", EVEN, value), word="lemmas")
        self.check_refused(live, InvalidBook, lambda: live.show("cc", said("odds('a') is odd", HOME)), word="lemmas")

    def test_drop_and_mend(self):
        book = Book(HALL, [("sure", SURE, None), ("twice", EVEN, telling(EVEN, "sure")), ("turn", TURN, None), ("both", EVEN, telling(TURN, "turn") + telling(EVEN, "twice"))])
        live = Live(book)
        self.check_same(live.drop(name="twice"), ("twice", "both"))
        self.check_same(live.book.names, ("sure", "turn"))
        live.undo()
        self.check_same(live.mend(), ("sure",))
        self.assertEqual(live.book, mended_book(book))
        self.check_same(live.drop("turn"), ("turn", "both"))
        self.check_same(live.drop("twice"), ("twice",))
        self.check_same(live.mend(), ())
        self.assertEqual(len(live), 4)
        for value in any_values() + ["sure", "none", ["turn"]]:
            self.check_refused(live, NoName, lambda: live.drop(value), name=value)

    def test_undo(self):
        live = Live(Book(HALL))
        self.assertIs(live.undo(), False)
        self.assertEqual(len(live), 0)
        live.take("aa", EVEN)
        # deeds by which the book stays equal are taken back like others
        live.take("aa", EVEN)
        live.mend()
        live.put("aa", EVEN, None)
        self.assertEqual(len(live), 4)
        # such by which nothing was put are not
        live.show("bb", SURE)
        self.check_refused(live, Refused, lambda: live.take("aa", SURE), at=0)
        self.assertEqual(len(live), 4)
        self.assertEqual([(live.undo(), live.book.names) for _ in range(6)], [(True, ("aa",))] * 3 + [(True, ())] + [(False, ())] * 2)
        self.assertEqual(len(live), 0)

    def test_other_objects(self):
        book = Book(HALL)
        live, other = Live(book), Live(book)
        live.take("aa", EVEN)
        self.assertEqual((other.book, len(other), len(book)), (Book(HALL), 0, 0))
        self.assertIsInstance(Live.__dict__["book"], property)
        with self.assertRaises(TypeError):
            iter(live)


class WithinTest(Checks, unittest.TestCase):
    def setUp(self):
        self.live = Live(Book(HALL))
        self.live.take("aa", EVEN)
        self.live.take("bb", SURE)

    def check_as_ahead(self):
        self.check_same((self.live.book.names, len(self.live)), (("aa", "bb"), 2))

    def test_deeds(self):
        found = []

        def work(live):
            live.take("cc", EVEN)
            live.drop("aa")
            found.append((live is self.live, live.book.names, len(live)))
            return ["told", live.book]

        told = self.live.within(work=work)
        self.assertEqual(found, [(True, ("bb", "cc"), 4)])
        self.assertEqual((told[0], told[1].names), ("told", ("bb", "cc")))
        self.check_as_ahead()
        self.assertIsNone(self.live.within(lambda live: None))

    def test_deeds_that_are_taken_back(self):
        self.assertEqual(self.live.within(lambda live: [live.undo() for _ in range(4)] + [live.take("cc", SURE), len(live)]), [True, True, False, False, None, 1])
        self.check_as_ahead()
        self.assertIs(self.live.undo(), True)
        self.assertEqual(self.live.book.names, ("aa",))

    def test_errors(self):
        def work(live):
            live.mend()
            live.drop("aa")
            live.drop("none")

        self.check_error(NoName, lambda: self.live.within(work), name="none")
        self.check_as_ahead()

        def other_work(live):
            live.take("cc", EVEN)
            return 1 // 0

        with self.assertRaises(ZeroDivisionError):
            self.live.within(other_work)
        self.check_as_ahead()

    def test_one_in_another(self):
        found = []

        def inner(live):
            live.drop("aa")
            found.append((live.book.names, len(live)))
            raise Refused("inner")

        def outer(live):
            live.take("cc", EVEN)
            try:
                live.within(inner)
            except Refused as error:
                found.append(error.at)
            found.append((live.book.names, len(live)))
            live.take("dd", EVEN)
            return live.within(lambda one: one.book.names)

        self.assertEqual(self.live.within(outer), ("aa", "bb", "cc", "dd"))
        self.assertEqual(found, [(("bb", "cc"), 4), "inner", (("aa", "bb", "cc"), 3)])
        self.check_as_ahead()


class DeedsTest(Checks, unittest.TestCase):
    def test_by_definition(self):
        """Deeds against books that are made anew."""
        chance = random.Random(85)
        counts = {"put": 0, "refused": 0, "untrue": 0}
        for _ in range(60):
            live = Live(random_book(chance, 4))
            past, book = [], live.book
            was_right = not wrong(book)
            for _ in range(12):
                deed = chance.choice(("show", "take", "put", "put", "drop", "mend", "undo"))
                name, claim = chance.choice(NAMES), chance.choice(TRUE + FALSE)
                index = book.names.index(name) if name in book.names else None
                if index is not None and chance.random() < 0.7:
                    claim = book.claim_of(name)
                if deed == "undo":
                    self.assertIs(live.undo(), bool(past))
                    book = past.pop() if past else book
                elif deed in ("drop", "mend"):
                    if deed == "drop" and index is None:
                        self.check_error(NoName, lambda: live.drop(name), name=name)
                    else:
                        further = book.without(name) if deed == "drop" else mended_book(book)
                        told = live.drop(name) if deed == "drop" else live.mend()
                        self.check_same(told, tuple(own for own in book.names if own not in further.names))
                        past.append(book)
                        book = further
                elif index is not None and claim != book.claim_of(name):
                    counts["refused"] += 1
                    self.check_error(Refused, lambda: live.take(name, claim), at=index)
                    self.check_error(Refused, lambda: live.show(name, claim), at=index)
                elif deed == "show" and failing_rows(claim) is not None:
                    counts["untrue"] += 1
                    self.check_same(live.show(name, claim), failing_rows(claim))
                else:
                    told = [(own, one) for own, one, _ in book.lemmas[:index]]
                    lines = {"show": deduction_of, "take": lambda _: None}.get(deed, lambda _: random_lines(chance, claim, told))(claim)
                    wrong_line = None if deed != "put" else first_wrong(lines, told)
                    if deed == "put" and wrong_line is None and lines[-1][0] != claim:
                        wrong_line = len(lines)
                    if wrong_line is not None:
                        counts["refused"] += 1
                        self.check_error(Refused, lambda: live.put(name, claim, lines), at=wrong_line)
                    else:
                        counts["put"] += 1
                        self.assertIsNone({"show": live.show, "take": live.take}.get(deed, lambda *told: live.put(*told, lines))(name, claim))
                        past.append(book)
                        book = book.having(name, claim, lines)
                self.assertEqual((live.book, len(live)), (book, len(past)))
                if was_right:
                    self.assertEqual(wrong(book), ())
                    if not any(lines is None for name, _, lines in book.lemmas if name in dict(untrue(book))):
                        self.assertEqual(untrue(book), ())
        self.assertTrue(all(many > 15 for many in counts.values()), counts)

    def test_rows_of_sayings(self):
        live = Live(Book(HALL))
        for text in ("odds(one + two) is odds(one)", "( if ends(one) is yes then odds(two) is even )", "for all one ends(one) is yes"):
            self.check_same(live.show("aa", said(text)), fails(said(text)))


if __name__ == "__main__":
    unittest.main()
