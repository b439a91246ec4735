"""[36], [37], [38]: sayings."""

import random
import unittest

from allrows.changes import Change
from allrows.errors import Bound, InvalidSaying, InvalidText
from allrows.houses import House
from allrows.sayings import Saying
from allrows.terms import Term
from support import (END, HOME, NAMES_THAT_ARE_NONE, ODD, ONE_SIGN, Checks, any_values, random_house, random_saying, random_term, rows_to,
                     small_sayings, tried)

ROW, TWO = Term.of_name("row"), Term.of_name("two")
EVEN_ROW = Saying(HOME, ("is", "odds", ROW, "even"))
SAME = Saying(HOME, ("same", "odds", ROW, "ends", TWO + Term.of_row("a")))
COUNTED = HOME.having("odds", ODD)


def said(text):
    return Saying.parse(HOME, text)


class SayingTest(Checks, unittest.TestCase):
    def test_attributes(self):
        self.assertIs(EVEN_ROW.house, HOME)
        self.check_same(EVEN_ROW.form, ("is", "odds", ROW, "even"))
        self.check_same(SAME.form, ("same", "odds", ROW, "ends", TWO + Term.of_row("a")))
        for form in (("not", SAME), ("and", SAME, EVEN_ROW), ("or", SAME, SAME), ("if", EVEN_ROW, SAME), ("all", "row", SAME), ("some", "other", SAME)):
            self.check_same(Saying(form=form, house=HOME).form, form)

    def test_names(self):
        self.check_same(EVEN_ROW.names, ("row",))
        self.check_same(SAME.names, ("row", "two"))
        self.check_same(said("odds('ab') is even").names, ())
        self.check_same(said("( odds(zz) is even or not odds(aa + zz) is odds(mm) )").names, ("aa", "mm", "zz"))
        self.check_same(said("for all row odds(row + two) is even").names, ("two",))
        # free and bound at once, bound twice, bound where it does not stand
        self.check_same(said("( for all row odds(row) is even and odds(row) is odd )").names, ("row",))
        self.check_same(said("for all row for some row odds(row) is even").names, ())
        self.check_same(said("for all row ( odds(two) is even or for some two odds(two) is odd )").names, ("two",))
        self.check_same(said("for all other odds(row) is even").names, ("row",))
        # a part with a void change tells no row
        self.check_same(said("odds([,](row) + two) is even").names, ("two",))

    def test_wrong_forms(self):
        for value in any_values():
            self.check_error(InvalidSaying, lambda: Saying(HOME, value), word="form")
            if not (isinstance(value, Term) and value.names == ("xx",)):
                self.check_error(InvalidSaying, lambda: Saying(HOME, ("is", "none", value, "none")), word="form")
                self.check_error(InvalidSaying, lambda: Saying(HOME, ("same", "none", value, "none", ROW)), word="form")
                self.check_error(InvalidSaying, lambda: Saying(HOME, ("same", "none", ROW, "none", value)), word="form")
            if not isinstance(value, Saying):
                for form in (("not", value), ("and", value, SAME), ("and", SAME, value), ("or", value, SAME), ("or", SAME, value), ("if", value, SAME),
                             ("if", SAME, value), ("all", "row", value), ("some", "row", value)):
                    self.check_error(InvalidSaying, lambda: Saying(HOME, form), word="form")
            if value not in ("ab", "ba", "abc", "aa", "xx"):
                self.check_error(InvalidSaying, lambda: Saying(HOME, ("all", value, SAME)), word="form")
                self.check_error(InvalidSaying, lambda: Saying(HOME, ("some", value, SAME)), word="form")
            self.check_error(InvalidSaying, lambda: Saying(HOME, (value, SAME)), word="form")
            if value != "or":
                self.check_error(InvalidSaying, lambda: Saying(HOME, (value, SAME, SAME)), word="form")
        for name in NAMES_THAT_ARE_NONE:
            self.check_error(InvalidSaying, lambda: Saying(HOME, ("all", name, SAME)), word="form")
        for form in (["is", "odds", ROW, "even"], ("is", "odds", ROW), ("is", "odds", ROW, "even", 0), ("same", "odds", ROW, "odds"), ("not",), ("not", SAME, SAME),
                     ("and", SAME), ("and", SAME, SAME, SAME), ("all", SAME), ("all", "row", "two", SAME), ("all", "row", SAME, SAME), ("some", "row", SAME, "row"), ("IS", "odds", ROW, "even"), ("then", SAME, SAME),
                     ("all", SAME, "row"), ("is", "odds", (ROW,), "even"), (), ("not", SAME.form), ("is", "odds", "row", "even"), "not", SAME):
            self.check_error(InvalidSaying, lambda: Saying(HOME, form), word="form")

    def test_other_houses_and_signs(self):
        other = Saying(House("ab", [("odds", ODD)]), ("is", "odds", ROW, "even"))
        equal = Saying(House("ab", [("odds", ODD), ("ends", END)]), ("is", "odds", ROW, "even"))
        self.assertEqual(Saying(HOME, ("not", equal)), EVEN_ROW.negated())
        for form in (("not", other), ("and", EVEN_ROW, other), ("all", "row", other)):
            self.check_error(InvalidSaying, lambda: Saying(HOME, form), word="form")
        for term in (Term.of_row("c"), Term([("name", "row", False, Change("abc", ["", "a", "b"]))])):
            self.check_error(InvalidSaying, lambda: Saying(HOME, ("is", "none", term, "none")), word="form")
            self.check_error(InvalidSaying, lambda: Saying(HOME, ("same", "odds", ROW, "odds", term)), word="form")

    def test_wrong_readers(self):
        for value in any_values() + ["Odds", "od"]:
            self.check_error(InvalidSaying, lambda: Saying(HOME, ("is", value, ROW, None)), word="reader")
            self.check_error(InvalidSaying, lambda: Saying(HOME, ("same", value, ROW, "odds", TWO)), word="reader")
            self.check_error(InvalidSaying, lambda: Saying(HOME, ("same", "odds", ROW, value, TWO)), word="reader")
        with_count = House("ab", [("odds", ODD)], [("size", random_house(random.Random(1), counts=1).count_of("size"))])
        self.check_error(InvalidSaying, lambda: Saying(with_count, ("is", "size", ROW, "even")), word="reader")

    def test_wrong_marks(self):
        for value in any_values() + ["yes", "Even"]:
            self.check_error(InvalidSaying, lambda: Saying(HOME, ("is", "odds", ROW, value)), word="mark")
        # marks of unlike readers may have one name or not
        self.assertEqual(Saying(HOME, ("same", "odds", ROW, "ends", ROW)).names, ("row",))

    def test_equal(self):
        self.assertTrue(EVEN_ROW == Saying(House("ab", [("odds", ODD), ("ends", END)]), ("is", "odds", Term([("row", ""), ROW.parts[0]]), "even")))
        for other in ("odds(row) is odd", "odds(two) is even", "not odds(row) is even", "odds(row) is odds(row)", "( odds(row) is even and odds(row) is even )"):
            self.assertFalse(EVEN_ROW == said(other))
        self.assertFalse(said("( odds(row) is even and odds(row) is odd )") == said("( odds(row) is even or odds(row) is odd )"))
        self.assertFalse(said("for all row odds(row) is even") == said("for all two odds(two) is even"))
        self.assertFalse(EVEN_ROW == Saying(House("ab", [("odds", ODD)]), EVEN_ROW.form))
        for value in any_values():
            self.assertFalse(EVEN_ROW == value)
        with self.assertRaises(TypeError):
            iter(EVEN_ROW)


class TextTest(Checks, unittest.TestCase):
    def test_text(self):
        term = Term.parse("ab", "'ab' + back [ab,](row)")
        self.assertEqual(str(Saying(HOME, ("is", "odds", term, "even"))), "odds('ab' + back [ab,](row)) is even")
        self.assertEqual(str(Saying(HOME, ("same", "odds", Term([]), "ends", term))), "odds('') is ends('ab' + back [ab,](row))")
        inner, other = str(EVEN_ROW), str(SAME)
        for form, text in ((("not", EVEN_ROW), f"not {inner}"), (("and", EVEN_ROW, SAME), f"( {inner} and {other} )"),
                           (("or", EVEN_ROW, SAME), f"( {inner} or {other} )"), (("if", EVEN_ROW, SAME), f"( if {inner} then {other} )"),
                           (("all", "row", SAME), f"for all row {other}"), (("some", "two", SAME), f"for some two {other}")):
            self.assertEqual(str(Saying(HOME, form)), text)
            self.assertEqual(Saying.parse(HOME, text).form, form)
        self.assertEqual(Saying.parse(text=inner, house=HOME), EVEN_ROW)

    def test_round(self):
        chance = random.Random(111)
        for _ in range(200):
            house = random_house(chance, chance.choice(("a", "ab", "abc")), 3)
            saying = random_saying(chance, house, ("xx", "yy", "zz"), chance.randint(0, 4), 3)
            self.assertEqual(Saying.parse(house, str(saying)).form, saying.form)
            self.assertEqual(Saying.parse(house, str(saying)), saying)

    def test_what_stands_behind_is_the_next_saying_alone(self):
        self.assertEqual(said("( not odds(row) is even and odds(two) is odd )").form[1], EVEN_ROW.negated())
        self.assertEqual(said("( for all row odds(row) is even or odds(row) is even )").form[2], EVEN_ROW)
        self.assertEqual(said("not for some row not odds(row) is even").form[1].form[2].form[1], EVEN_ROW)

    def test_terms_not_in_normal_form(self):
        self.assertEqual(said("odds('' + [a,b](row) + 'a' + 'b' + [,](two)) is even"), said("odds(row + 'ab') is even"))
        self.assertEqual(str(said("odds('' + '') is odds('' + row)")), "odds('') is odds(row)")

    def test_deep_texts(self):
        text = "not " * 740 + "odds(row) is even"
        self.assertEqual(str(said(text)), text)
        self.assertEqual(said(text), said(text))
        self.assertEqual(str(said(text).put("row", TWO)), text.replace("row", "two"))
        inner = "odds(row) is even"
        for _ in range(23):
            inner = f"( {inner} and odds(row) is even )"
        self.assertEqual(str(said(inner)), inner)

    def test_no_text(self):
        for value in any_values():
            self.check_error(InvalidText, lambda: Saying.parse(HOME, value), at=0)
        good = "odds(row) is even"
        wrong = ["", " ", "not", "not ", f"not  {good}", f" {good}", f"{good} ", f"{good} )", f"( {good} )", f"( {good} and )", f"( {good} and {good}",
                 f"( {good} and {good})", f"({good} and {good} )", f"( {good} And {good} )", f"( {good} if {good} )", f"( if {good} and {good} )",
                 f"( if {good} then {good}", f"if {good} then {good}", f"{good} and {good}", f"( {good} then {good} )", f"( {good} and {good} and {good} )",
                 f"for all {good}", f"for all x {good}", f"for all or {good}", f"for all row", "for all row ", f"for every row {good}", f"all row {good}",
                 f"for all row  {good}", f"for all  row {good}", f"for all row, {good}", f"for some abcdefg {good}", f"For all row {good}", f"for {good}",
                 "odds(row) is", "odds(row) is ", "odds(row)", "odds(row) even", "odds(row)  is even", "odds(row) is  even", "odds(row) is e", "odds(row) is or",
                 "odds(row) is Even", "odds(row) is even.", "odds (row) is even", "odds(row is even", "odds row) is even", "odds row is even", "o(row) is even",
                 "or(row) is even", "(row) is even", "Odds(row) is even", "odds(row) is odds(", "odds(row) is odds()", "odds() is even",
                 "odds(row)) is even", "odds((row)) is even", "odds(row + ) is even", "odds('c') is even", "odds([a](row)) is even", "odds([a,b](row) is even",
                 "odds([a,b]row) is even", "odds(back) is even", "odds(row + back 'a') is even", "odds(row)is even", "odds(row) iseven", f"{good}\n", f"{good} {good}",
                 "( " * 1000, "not " * 700, "for all row " * 200, "( if " * 600 + good, "odds(row) is o1", f"not{good}",
                 "odds(row) is odds(two) is even", f"( not {good} )", "odds('ab) is even", "odds(ab') is even"]
        for text in wrong:
            self.check_error(InvalidText, lambda: Saying.parse(HOME, text), at=0)

    def test_errors_of_sayings(self):
        for text in ("none(row) is even", "odds(row) is none(row)", "none(row) is odds(row)", "( odds(row) is even and none(row) is even )", "none(row) is none"):
            self.check_error(InvalidSaying, lambda: said(text), word="reader")
        for text in ("odds(row) is yes", "not odds(row) is odds", "for all row odds(row) is yes"):
            self.check_error(InvalidSaying, lambda: said(text), word="mark")
        # what is no text stands ahead
        self.check_error(InvalidText, lambda: said("( none(row) is even and odds(row) is even"), at=0)
        self.check_error(InvalidText, lambda: said("( odds(row) is yes and odds(row + ) is even )"), at=0)


class PutTest(Checks, unittest.TestCase):
    def test_put(self):
        for text, name, term, put in (
                ("odds(row + back two) is even", "row", "'a' + two", "odds('a' + two + back two) is even"),
                ("odds(row + back two) is odds(two)", "two", "'ab' + row", "odds(row + back row + 'ba') is odds('ab' + row)"),
                ("odds([ab,](row)) is even", "row", "back two + 'a'", "odds(back [ba,](two) + 'ab') is even"),
                ("( odds(row) is even and for all row odds(row) is odd )", "row", "two", "( odds(two) is even and for all row odds(row) is odd )"),
                ("for all row odds(row) is odd", "row", "two", "for all row odds(row) is odd"),
                ("for all row odds(row) is odd", "two", "row", "for all row odds(row) is odd"),
                ("for some two odds(row) is odds(two)", "row", "other + 'a'", "for some two odds(other + 'a') is odds(two)"),
                ("( if not odds(row) is even then ends(two) is yes )", "two", "''", "( if not odds(row) is even then ends('') is yes )"),
                ("not not odds(row) is even", "row", "row + row", "not not odds(row + row) is even"),
                ("odds(row) is even", "two", "'a'", "odds(row) is even")):
            self.assertEqual(str(said(text).put(name, Term.parse("ab", term))), put)
        self.assertEqual(EVEN_ROW.put(term=TWO, name="row"), said("odds(two) is even"))
        self.assertEqual(str(EVEN_ROW), "odds(row) is even")

    def test_bound(self):
        both = Term.parse("ab", "zz + two + aa")
        for text, name in (("for all two odds(row) is even", "two"), ("for all zz for some two odds(row) is even", "two"),
                           ("for all zz for some aa odds(row) is even", "aa"), ("( odds(row) is even or for all zz odds(row + zz) is odd )", "zz"),
                           ("( for all zz odds(row + zz) is odd and for some two odds(row) is odd )", "two"),
                           ("for all two not ( odds(row) is even and odds(two) is even )", "two")):
            self.check_error(Bound, lambda: said(text).put("row", both), name=name)
        # bound elsewhere, or where the name is not free
        self.assertEqual(str(said("( odds(row) is even and for all two odds(two) is odd )").put("row", both)),
                         "( odds(zz + two + aa) is even and for all two odds(two) is odd )")
        self.assertEqual(str(said("( odds(row) is even and for all two for all row odds(row + two) is odd )").put("row", TWO)),
                         "( odds(two) is even and for all two for all row odds(row + two) is odd )")
        self.assertEqual(str(said("for all two odds(two) is odd").put("row", TWO)), "for all two odds(two) is odd")
        # the name itself may stand in the term
        self.assertEqual(str(EVEN_ROW.put("row", ROW + ROW)), "odds(row + row) is even")

    def test_put_tells_the_row_of_the_term(self):
        chance = random.Random(112)
        for saying in small_sayings(113, 60):
            term = random_term(chance, saying.house.signs, ("vv", "ww"), 2)
            put = saying.put("xx", term)
            # a change behind another one may leave nothing of a row
            self.assertLessEqual(set(put.names), {name for name in saying.names if name != "xx"} | set(term.names))
            self.assertLessEqual({name for name in saying.names if name != "xx"}, set(put.names))
            rows = {name: chance.choice(rows_to(saying.house.signs, 2)) for name in ("vv", "ww", "yy")}
            self.assertEqual(tried(put, rows), tried(saying, {**rows, "xx": term.spelled(rows)}))

    def test_negated(self):
        self.assertEqual(EVEN_ROW.negated().form, ("not", EVEN_ROW))
        self.assertEqual(EVEN_ROW.negated().negated(), EVEN_ROW)
        self.assertEqual(str(said("not not odds(row) is even").negated()), "not odds(row) is even")


if __name__ == "__main__":
    unittest.main()
