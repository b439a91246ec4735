"""[66], [67], [68]: which lines of deductions are right."""

import random
import unittest
from itertools import product

from allrows.changes import Change
from allrows.counts import Count
from allrows.deciding import holds
from allrows.heights import at_most, heights
from allrows.houses import House
from allrows.looker import deduction_holds, first_wrong
from allrows.readers import Reader
from allrows.sayings import Saying
from allrows.sums import Sum
from allrows.terms import Term
from allrows.trees import tree_for
from support import END, HOME, ODD, Checks, any_values, random_house, random_saying

FLAT = Reader("ab", ["go"], "go", [["go", "go"]])
HALL = House("ab", [("odds", ODD), ("ends", END)], [("size", Count(FLAT, [[1, 1]], [0])), ("peak", Count(END, [[0, 0], [0, 1]], [0, 0]))])
EVEN = "odds(xx) is even"


def said(text, house=HOME):
    return Saying.parse(house, text)


def hall(text):
    return said(text, HALL)


def bound(text, most, saying="ends(row) is ends(row)"):
    return ("bound", Sum.parse("ab", text), most, hall(saying))


def by_tree(claim):
    return claim, ("tree", tree_for(claim))


def by_heights(claim):
    return claim, ("heights", heights(claim[1], claim[3], claim[2]))


def taken(*claims):
    """Told claims, named aa, ab, .., and the lines that tell them."""
    names = ["a" + letter for letter in "abcdefghijklm"]
    told = list(zip(names, claims))
    return told, [(claim, ("told", name)) for name, claim in told]


def true_by_cases(claim, premises):
    """Whether a saying is true whenever the others are, by calling its parts true and false."""
    def parts(saying):
        if saying.form[0] in ("is", "same", "all", "some"):
            return {str(saying)}
        return {part for inner in saying.form[1:] for part in parts(inner)}

    def truth(saying, called):
        word = saying.form[0]
        if word == "not":
            return not truth(saying.form[1], called)
        if word in ("and", "or", "if"):
            one, other = truth(saying.form[1], called), truth(saying.form[2], called)
            return {"and": one and other, "or": one or other, "if": not one or other}[word]
        return called[str(saying)]

    letters = sorted({part for saying in [claim, *premises] for part in parts(saying)})
    ways = [dict(zip(letters, called)) for called in product((False, True), repeat=len(letters))]
    return len(letters) <= 8 and all(truth(claim, way) for way in ways if all(truth(one, way) for one in premises))


class FormsTest(Checks, unittest.TestCase):
    def check_line(self, is_right, claim, why, *premises):
        """A line behind told ones."""
        told, lines = taken(*premises)
        self.assertEqual(first_wrong((*lines, (claim, why)), told), None if is_right else len(lines), why)
        self.assertIs(deduction_holds(claim, (*lines, (claim, why)), told), is_right)

    def test_told(self):
        even, odd = said(EVEN), said("odds(xx) is odd")
        told = [("aa", even), ("bb", odd)]
        self.assertIsNone(first_wrong(((even, ("told", "aa")), (odd, ("told", "bb"))), told))
        self.assertIsNone(first_wrong(lines=((even, ("told", "aa")),), told=tuple(told)))
        for claim, why in ((even, ("told", "bb")), (even, ("told", "cc")), (even, ("told",)), (even, ["told", "aa"]), (even, ("told", "aa", 0)),
                           (even, ("told", ["aa"])), (even, ("told", ("aa",))), (even, ("told", None)), (odd, ("told", "aa"))):
            self.assertEqual(first_wrong(((claim, why),), told), 0)
        self.assertEqual(first_wrong(((even, ("told", "aa")),)), 0)
        # claims with bounds
        claim = bound("1 * size(row)", 3, "odds(row) is odd")
        self.check_line(True, claim, ("told", "aa"), claim)
        self.check_line(False, bound("1 * size(row)", 4, "odds(row) is odd"), ("told", "aa"), claim)
        self.check_line(False, claim, ("told", "aa"), claim[3])
        self.check_line(False, claim[3], ("told", "aa"), claim)

    def test_tree(self):
        claim = said("odds(xx + xx) is even")
        self.check_line(True, claim, ("tree", tree_for(claim)))
        self.check_line(False, said("odds(xx) is even"), ("tree", tree_for(claim)))
        self.check_line(False, claim, ("tree", tree_for(claim), 0))
        self.check_line(False, claim, ("tree",))
        self.check_line(False, claim, ("heights", tree_for(claim)))
        for value in any_values():
            self.check_line(False, claim, ("tree", value))

    def test_heights(self):
        claim = bound("2 * peak(row) + -1 * size(row)", 0)
        paper = heights(claim[1], claim[3], 0)
        self.check_line(True, claim, ("heights", paper))
        self.check_line(False, claim, ("tree", paper))
        self.check_line(False, bound("2 * peak(row) + -1 * size(row)", -1), ("heights", paper))
        self.check_line(True, bound("2 * peak(row) + -1 * size(row)", 5), ("heights", paper))
        self.check_line(False, claim[3], ("heights", paper))
        for value in any_values():
            self.check_line(False, claim, ("heights", value))

    def test_put(self):
        even = said(EVEN)
        self.check_line(True, said("odds(yy + 'ab' + yy) is even"), ("put", 0, "xx", HOME.term("yy + 'ab' + yy")), even)
        self.check_line(True, said("odds(back [b,a](xx)) is even"), ("put", 0, "xx", HOME.term("back [b,a](xx)")), even)
        self.check_line(False, said("odds(yy + yy) is even"), ("put", 0, "xx", HOME.term("yy")), even)
        self.check_line(True, said("odds('') is even"), ("put", 0, "xx", Term([])), even)
        # a name that does not stand there free
        self.check_line(True, even, ("put", 0, "zz", HOME.term("yy")), even)
        inner = said("( odds(xx) is even or for all xx odds(xx + yy) is even )")
        self.check_line(True, said("( odds('a') is even or for all xx odds(xx + yy) is even )"), ("put", 0, "xx", HOME.term("'a'")), inner)
        # bound where the term is put
        self.check_line(True, said("( odds(xx) is even or for all xx odds(xx + zz) is even )"), ("put", 0, "yy", HOME.term("zz")), inner)
        self.check_line(False, said("( odds(xx) is even or for all xx odds(xx + xx) is even )"), ("put", 0, "yy", HOME.term("xx")), inner)
        for why in (("put", 0, "xx"), ("put", 0, "xx", "yy"), ("put", 0, "is", HOME.term("yy")), ("put", 0, 3, HOME.term("yy")),
                    ("put", False, "xx", HOME.term("yy")), ("put", 1, "xx", HOME.term("yy")), ("put", -1, "xx", HOME.term("yy")),
                    ("put", 9, "xx", HOME.term("yy")), ("put", "0", "xx", HOME.term("yy")), ("put", 0, "xx", Term.of_name("yy"), 0),
                    ["put", 0, "xx", HOME.term("yy")], ("put", None, "xx", HOME.term("yy"))):
            self.check_line(False, said("odds(yy) is even"), why, even)
        self.check_line(True, said("odds(yy) is even"), ("put", 0, "xx", HOME.term("yy")), even)
        # terms of other signs
        self.check_line(False, even, ("put", 0, "zz", Term.of_row("c")), even)
        self.check_line(False, even, ("put", 0, "zz", Term([("name", "xx", False, Change("abc", ["a", "a", "a"]))])), even)
        claim = bound("1 * size(row)", 3, "odds(row) is odd")
        self.check_line(False, claim, ("put", 0, "row", Term.of_name("row")), claim)
        self.check_line(False, claim[3], ("put", 0, "row", Term.of_name("row")), claim)

    def test_cases(self):
        one, other, third = said(EVEN), said("ends(xx) is yes"), said("for all yy odds(yy) is even")
        house = HOME
        both = Saying(house, ("and", one, other))
        self.check_line(True, both, ("cases", (0, 1)), one, other)
        self.check_line(True, both, ("cases", (1, 0, 1, 1)), one, other)
        self.check_line(False, both, ("cases", (0,)), one, other)
        self.check_line(True, one, ("cases", (0,)), both)
        self.check_line(True, Saying(house, ("or", one, one.negated())), ("cases", ()))
        self.check_line(False, one, ("cases", ()))
        self.check_line(True, third, ("cases", (0, 1)), one, Saying(house, ("if", one, third)))
        self.check_line(True, third, ("cases", (0, 1)), one, Saying(house, ("or", one.negated(), third)))
        # true, but not by letters
        self.check_line(False, said("odds(xx + xx) is even"), ("cases", ()))
        self.check_line(False, said("not odds(xx) is odd"), ("cases", (0,)), one)
        # whatever follows from what cannot be
        self.check_line(True, other, ("cases", (0,)), Saying(house, ("and", one, one.negated())))
        for value in ([0, 1], 0, None, (0, 2), (0, True), (0, -1), ((0, 1),), ("0", 1), (0, None)):
            self.check_line(False, both, ("cases", value), one, other)
        self.check_line(False, both, ("cases",), one, other)
        claim = bound("1 * size(row)", 3, "odds(row) is odd")
        self.check_line(False, claim, ("cases", (0,)), claim)
        self.check_line(False, claim[3], ("cases", (0,)), claim)
        self.check_line(False, claim[3], ("cases", (0, 1)), claim[3], claim)

    def test_cases_of_many_letters(self):
        for many, is_right in ((7, True), (8, True), (9, False)):
            texts = [f"odds('{'a' * number}') is even" for number in range(1, many + 1)]
            either = texts[0]
            for text in texts[1:]:
                either = f"( {either} or {text} )"
            self.check_line(is_right, said(f"( {either} or not {texts[0]} )"), ("cases", ()))
            self.check_line(is_right, said(either), ("cases", (0,)), said(texts[0]))
        # letters of lines ahead count, too; those of lines that are not told do not; equal ones are one
        premises = [said(f"odds('{'a' * number}') is even") for number in range(1, 11)]
        self.check_line(True, premises[0], ("cases", tuple(range(8))), *premises)
        self.check_line(False, premises[0], ("cases", tuple(range(9))), *premises)
        self.check_line(True, premises[9], ("cases", (9, 9, 3)), *premises)

    def test_cases_by_calling(self):
        chance = random.Random(66)
        right = 0
        for _ in range(600):
            house = HOME
            atoms = [said(text) for text in (EVEN, "ends(xx) is yes", "for some yy odds(yy + xx) is even", "odds(xx) is ends(yy)")]

            def made(deep):
                word = chance.choice(("not", "and", "or", "if"))
                if deep == 0:
                    return chance.choice(atoms)
                if word == "not":
                    return Saying(house, (word, made(deep - 1)))
                return Saying(house, (word, made(deep - 1), made(deep - 1)))

            premises = [made(chance.randint(0, 2)) for _ in range(chance.randint(0, 3))]
            claim = made(chance.randint(0, 3))
            is_right = true_by_cases(claim, premises)
            right += is_right
            self.check_line(is_right, claim, ("cases", tuple(range(len(premises)))), *premises)
        self.assertTrue(100 < right < 500, right)

    def test_alike(self):
        one = said("odds('ab' + xx + 'b' + back yy) is even")
        self.check_line(True, said("odds('a' + xx + back yy + 'aa') is even"), ("alike", 0), one)
        self.check_line(True, said("odds('ba' + xx + 'aba' + back yy + 'b') is even"), ("alike", 0), one)
        self.check_line(True, one, ("alike", 0), one)
        for text in ("odds(xx + 'b' + back yy) is even", "odds('ab' + xx + 'b' + yy) is even", "odds('ab' + yy + 'b' + back xx) is even",
                     "odds('ab' + xx + 'a' + back yy + 'a') is even", "odds('ab' + xx + 'b') is even", "odds('ab' + xx + 'b' + back [b,a](yy)) is even",
                     "odds('ab' + xx + 'b' + back yy) is odd", "not odds('ab' + xx + 'b' + back yy) is even", "ends('ab' + xx + 'b' + back yy) is yes",
                     "odds('ab' + xx + 'b' + back yy) is odds('')", "for all zz odds('ab' + xx + 'b' + back yy) is even"):
            self.check_line(False, said(text), ("alike", 0), one)
        # each reader by itself: ends does not tell aa from a, odds does
        two = said("odds(xx + 'a') is ends(yy + 'aa')")
        self.check_line(True, said("odds(xx + 'a') is ends(yy + 'a')"), ("alike", 0), two)
        self.check_line(False, said("odds(xx + 'aa') is ends(yy + 'aa')"), ("alike", 0), two)
        self.check_line(False, said("odds(xx + 'a') is odds(yy + 'aa')"), ("alike", 0), two)
        # acts, not marks behind the first one: ends comes to no by the empty row, and by b
        self.check_line(False, said("ends(xx + 'b') is no"), ("alike", 0), said("ends(xx) is no"))
        # within others
        deep = said("for all xx ( if not odds(xx + 'b') is even then for some yy ( ends('a') is yes or odds(yy + 'aa' + xx) is odd ) )")
        self.check_line(True, said("for all xx ( if not odds(xx) is even then for some yy ( ends('ba') is yes or odds(yy + xx + 'b') is odd ) )"),
                        ("alike", 0), deep)
        for text in ("for all xx ( if not odds(xx + 'b') is even then for all yy ( ends('a') is yes or odds(yy + 'aa' + xx) is odd ) )",
                     "for all zz ( if not odds(xx + 'b') is even then for some yy ( ends('a') is yes or odds(yy + 'aa' + xx) is odd ) )",
                     "for all xx ( if odds(xx + 'b') is even then for some yy ( ends('a') is yes or odds(yy + 'aa' + xx) is odd ) )",
                     "for all xx ( if not odds(xx + 'b') is even then for some yy ( ends('a') is yes and odds(yy + 'aa' + xx) is odd ) )",
                     "for all xx ( if not odds(xx + 'b') is even then for some yy ( ends('b') is yes or odds(yy + 'aa' + xx) is odd ) )"):
            self.check_line(False, said(text), ("alike", 0), deep)
        for why in (("alike",), ("alike", 1), ("alike", False), ("alike", (0,)), ("alike", 0, 0), ["alike", 0]):
            self.check_line(False, one, why, one)
        claim = bound("1 * size(row)", 3, "odds(row) is odd")
        self.check_line(False, claim, ("alike", 0), claim)
        self.check_line(False, claim[3], ("alike", 0), claim)
        self.check_line(False, claim, ("alike", 0), claim[3])

    def grow_lines(self, text):
        """The saying, and the lines from which it grows in xx."""
        saying = said(text)
        base = saying.put("xx", Term([]))
        steps = [Saying(HOME, ("if", saying, saying.put("xx", HOME.term(f"xx + '{sign}'")))) for sign in "ab"]
        return saying, [base, *steps]

    def test_grow(self):
        for text in ("odds(xx + xx) is even", "odds(xx + yy) is odds(yy + xx)", "( if ends(xx) is yes then for all yy odds(xx + yy) is even )",
                     "( odds(xx) is even or for all xx odds(xx) is even )"):
            saying, lines = self.grow_lines(text)
            self.check_line(True, saying, ("grow", "xx", 0, (1, 2)), *lines)
            self.check_line(True, saying, ("grow", "xx", 2, (3, 1)), EVEN_A, lines[2], lines[0], lines[1])
            for why in (("grow", "xx", 0, (2, 1)), ("grow", "xx", 0, (1,)), ("grow", "xx", 0, (1, 2, 2)), ("grow", "xx", 0, [1, 2]),
                        ("grow", "xx", 1, (1, 2)), ("grow", "yy", 0, (1, 2)), ("grow", "zz", 0, (1, 2)), ("grow", "xx", 0, (1, 3)),
                        ("grow", "xx", 0, ()), ("grow", "xx", 0), ("grow", "xx", False, (1, 2)), ("grow", "xx", 0, (True, 2)), ("grow", 5, 0, (1, 2)),
                        ("grow", "xx", (0,), (1, 2)), ("grow", "xx", 0, 1), ("grow", ["xx"], 0, (1, 2))):
                self.check_line(False, saying, why, *lines)
        saying, lines = self.grow_lines("odds(xx + xx) is even")
        for at, other in ((0, "odds('a') is even"), (0, "odds('') is odd"), (1, "( if odds(xx + xx) is even then odds('a' + xx + xx + 'a') is even )"),
                          (2, "( if odds(xx + xx) is even then odds(xx + 'a' + xx + 'a') is even )"),
                          (1, "( odds(xx + xx) is even or odds(xx + 'a' + xx + 'a') is even )"), (2, "odds(xx + 'b' + xx + 'b') is even")):
            self.check_line(False, saying, ("grow", "xx", 0, (1, 2)), *[said(other) if number == at else line for number, line in enumerate(lines)])
        # a name that is not free, with lines that would be those of it
        for name in ("zz", "xx"):
            saying = said("( odds(yy) is even and for all xx odds(xx + xx) is even )")
            step = Saying(HOME, ("if", saying, saying))
            self.check_line(False, saying, ("grow", name, 0, (1, 1)), saying, step)
            self.check_line(False, saying, ("grow", name, 0, (1, 2)), saying, step, step)
        saying, lines = self.grow_lines("odds(xx + xx) is even")
        # a name that is bound alone
        self.check_line(False, said("for all xx odds(xx + xx) is even"), ("grow", "xx", 0, (1, 2)), *lines)
        claim = bound("1 * size(row)", 3, "odds(row) is odd")
        self.check_line(False, claim, ("grow", "row", 0, (1, 2)), claim, claim, claim)
        self.check_line(False, claim[3], ("grow", "row", 0, (1, 2)), claim, claim, claim)

    def test_all(self):
        one = said("odds(xx + yy) is even")
        every = Saying(HOME, ("all", "xx", one))
        self.check_line(True, every, ("all", 0), one)
        self.check_line(True, one, ("all", 0), every)
        self.check_line(True, Saying(HOME, ("all", "zz", one)), ("all", 0), one)
        self.check_line(True, one, ("all", 0), Saying(HOME, ("all", "zz", one)))
        self.check_line(True, Saying(HOME, ("all", "yy", every)), ("all", 0), every)
        self.check_line(False, one, ("all", 0), one)
        self.check_line(False, Saying(HOME, ("some", "xx", one)), ("all", 0), one)
        self.check_line(False, one, ("all", 0), Saying(HOME, ("some", "xx", one)))
        self.check_line(False, every, ("all", 0), said("odds(yy + xx) is even"))
        self.check_line(False, said("for all zz odds(zz + yy) is even"), ("all", 0), one)
        for why in (("all",), ("all", 1), ("all", True), ("all", 0, 0), ("all", (0,))):
            self.check_line(False, every, why, one)
        claim = bound("1 * size(row)", 3, "odds(row) is odd")
        self.check_line(False, claim, ("all", 0), claim)
        self.check_line(False, Saying(HALL, ("all", "row", claim[3])), ("all", 0), claim)

    def test_some(self):
        claim = said("for some xx odds(xx + yy) is even")
        self.check_line(True, claim, ("some", 0, HOME.term("back yy + 'ab'")), said("odds(back yy + 'ab' + yy) is even"))
        self.check_line(False, claim, ("some", 0, HOME.term("back yy")), said("odds(back yy + 'ab' + yy) is even"))
        self.check_line(True, claim, ("some", 0, HOME.term("xx")), said("odds(xx + yy) is even"))
        self.check_line(False, said("for all xx odds(xx + yy) is even"), ("some", 0, HOME.term("xx")), said("odds(xx + yy) is even"))
        # bound where the term is put
        inner = said("for some xx for all yy odds(xx + yy) is even")
        self.check_line(True, inner, ("some", 0, HOME.term("zz")), said("for all yy odds(zz + yy) is even"))
        self.check_line(False, inner, ("some", 0, HOME.term("yy")), said("for all yy odds(yy + yy) is even"))
        # a name that stands nowhere
        self.check_line(True, said("for some zz odds(xx) is even"), ("some", 0, HOME.term("yy")), said(EVEN))
        for why in (("some", 0), ("some", 0, "xx"), ("some", 1, HOME.term("xx")), ("some", False, HOME.term("xx")), ("some", 0, None),
                    ("some", 0, Term.of_row("c"))):
            self.check_line(False, claim, why, said("odds(xx + yy) is even"))
        told = bound("1 * size(row)", 3, "odds(row) is odd")
        self.check_line(False, told, ("some", 0, Term.of_name("row")), told)
        self.check_line(False, hall("for some row odds(row) is odd"), ("some", 0, Term.of_name("row")), told)

    def test_weaker(self):
        told = bound("1 * size(row)", 3, "odds(row) is odd")
        step = hall("( if ( odds(row) is odd and ends(row) is yes ) then odds(row) is odd )")
        both = "( odds(row) is odd and ends(row) is yes )"
        self.check_line(True, bound("1 * size(row)", 3, both), ("weaker", 0, 1), told, step)
        self.check_line(True, bound("1 * size(row)", 4, both), ("weaker", 1, 0), step, told)
        for claim in (bound("1 * size(row)", 2, both), bound("1 * peak(row)", 3, both), bound("1 * size(row) + 1", 4, both),
                      bound("1 * size(row)", 3, "odds(row) is odd"), bound("1 * size(row)", 3, "ends(row) is yes"), hall(both)):
            self.check_line(False, claim, ("weaker", 0, 1), told, step)
        claim = bound("1 * size(row)", 3, both)
        self.check_line(False, claim, ("weaker", 0, 1), told, hall("( if odds(row) is odd then ( odds(row) is odd and ends(row) is yes ) )"))
        self.check_line(False, claim, ("weaker", 0, 1), told, hall("( odds(row) is odd or ( odds(row) is odd and ends(row) is yes ) )"))
        for word in ("or", "and"):
            self.check_line(False, claim, ("weaker", 0, 1), told, Saying(HALL, (word, hall(both), hall("odds(row) is odd"))))
        self.check_line(False, claim, ("weaker", 1, 0), told, step)
        self.check_line(False, claim, ("weaker", 0, 0), told, step)
        self.check_line(False, claim, ("weaker", 1, 1), told, step)
        for why in (("weaker", 0), ("weaker", 0, 2), ("weaker", 0, True), ("weaker", False, 1), ("weaker", (0, 1)), ("weaker", 0, 1, 1)):
            self.check_line(False, claim, why, told, step)

    def test_sum(self):
        one, other = bound("1 * size(row)", 3, "odds(row) is odd"), bound("2 * peak(row + row) + 1", -2, "odds(row) is odd")
        claim = bound("1 * size(row) + 2 * peak(row + row) + 1", 1, "odds(row) is odd")
        self.check_line(True, claim, ("sum", 0, 1), one, other)
        self.check_line(True, (*claim[:2], 2, claim[3]), ("sum", 0, 1), one, other)
        self.check_line(False, (*claim[:2], 0, claim[3]), ("sum", 0, 1), one, other)
        self.check_line(False, claim, ("sum", 1, 0), one, other)
        self.check_line(False, claim, ("sum", 0, 0), one, other)
        self.check_line(True, bound("1 * size(row) + 1 * size(row)", 6, "odds(row) is odd"), ("sum", 0, 0), one)
        self.check_line(False, bound("2 * size(row)", 6, "odds(row) is odd"), ("sum", 0, 0), one)
        self.check_line(False, (*claim[:3], hall("ends(row) is yes")), ("sum", 0, 1), one, other)
        self.check_line(False, claim, ("sum", 0, 1), (*one[:3], hall("ends(row) is yes")), other)
        self.check_line(False, claim, ("sum", 0, 1), one, (*other[:3], hall("ends(row) is yes")))
        self.check_line(False, claim, ("sum", 0, 1), one, claim[3])
        self.check_line(False, claim, ("sum", 0, 1), claim[3], other)
        self.check_line(False, claim[3], ("sum", 0, 1), one, other)
        for why in (("sum", 0), ("sum", 0, 2), ("sum", 0, True), ("sum", (0, 1)), ("sum", 0, 1, 1), ["sum", 0, 1]):
            self.check_line(False, claim, why, one, other)

    def test_whys_of_any_value(self):
        for value in any_values():
            self.check_line(False, said(EVEN), value, said(EVEN))
            self.check_line(False, said(EVEN), (value, 0), said(EVEN))
        for word in ("told", "tree", "heights", "put", "cases", "alike", "grow", "all", "some", "weaker", "sum"):
            for value in any_values():
                self.check_line(False, said("ends(xx) is yes"), (word, value), said(EVEN))
                self.check_line(False, said("ends(xx) is yes"), (word, value, value), said(EVEN))
                self.check_line(False, said("ends(xx) is yes"), (word, value, value, value), said(EVEN))
                self.check_line(False, bound("1 * size(row)", 3), (word, value, value), bound("1 * size(row)", 4))


EVEN_A = said("odds('aa') is even")


class LookerTest(Checks, unittest.TestCase):
    def lines(self):
        twice = said("odds(xx + xx) is even")
        put = said("odds('ab' + 'ab') is even")
        return (by_tree(twice), (put, ("put", 0, "xx", HOME.term("'ab'"))), (Saying(HOME, ("and", put, twice)), ("cases", (0, 1))))

    def test_first_wrong(self):
        lines = self.lines()
        self.assertIsNone(first_wrong(lines))
        for at in range(3):
            spoilt = (*lines[:at], (lines[at][0], None), *lines[at + 1:])
            self.assertEqual(first_wrong(spoilt), at)
            self.assertIs(deduction_holds(lines[-1][0], spoilt), False)
            twice_spoilt = tuple((claim, why if number < at else 0) for number, (claim, why) in enumerate(lines))
            self.assertEqual(first_wrong(twice_spoilt, []), at)

    def test_of_one_line(self):
        line = by_tree(said("odds(xx + xx) is even"))
        self.assertIsNone(first_wrong((line,)))
        self.assertIs(deduction_holds(claim=line[0], value=(line,), told=[]), True)
        line = by_heights(bound("2 * peak(row) + -1 * size(row)", 0))
        self.assertIs(deduction_holds(line[0], (line,)), True)
        # two bounds with equal integers, but a bool for one of them
        claim = bound("2 * peak(row) + -1 * size(row)", 1)
        line = by_heights(claim)
        self.assertIs(deduction_holds(claim, (line,)), True)
        self.assertIs(deduction_holds(claim, (((*claim[:2], True, claim[3]), line[1]),)), False)

    def test_deduction_holds(self):
        lines = self.lines()
        claim = lines[-1][0]
        self.assertIs(deduction_holds(claim, lines), True)
        self.assertIs(deduction_holds(lines[0][0], lines), False)
        self.assertIs(deduction_holds(lines[0][0], lines[:1]), True)
        for value in (list(lines), (), [list(line) for line in lines], tuple(list(line) for line in lines), (*lines, None), (*lines[:2], (claim,)),
                      (*lines[:2], (claim, lines[2][1], 0)), (("text", ("cases", ())), *lines), ((None, ("tree", ())), *lines)):
            self.assertIs(deduction_holds(claim, value), False)
        for value in any_values():
            self.assertIs(deduction_holds(claim, value), False)
            self.assertIs(deduction_holds(claim, (value,)), False)
            self.assertIs(deduction_holds(claim, (*lines, value)), False)
            self.assertIs(deduction_holds(claim, ((value, ("cases", ())), *lines[1:])), False)

    def test_claims_that_are_none(self):
        claim = hall("ends(row) is ends(row)")
        line = by_tree(claim)
        self.assertIs(deduction_holds(claim, ((bound("1 * size(row)", 3), ("cases", ())), line)), False)
        good = by_heights(bound("2 * peak(row) + -1 * size(row)", 0))
        self.assertIs(deduction_holds(claim, (good, line)), True)
        total, saying = good[0][1], good[0][3]
        for value in (("bound", total, 0), ("bound", total, False, saying), ("bound", total, "0", saying), ("bound", str(total), 0, saying),
                      ("bound", total, 0, str(saying)), ["bound", total, 0, saying], ("bounds", total, 0, saying), (None, total, 0, saying),
                      ("bound", total, 0, said("ends(row) is ends(row)")), ("bound", Sum.parse("ab", "1 * other(row)"), 0, saying),
                      ("bound", Sum.parse("ab", "1 * odds(row)"), 0, saying), ("bound", Sum.parse("abc", "1 * size('c')"), 0, saying),
                      ("bound", total, 0, saying, 0), said("ends(row) is ends(row)")):
            self.assertIs(deduction_holds(claim, ((value, good[1]), line)), False, value)
            self.assertIs(deduction_holds(claim, ((value, ("told", "aa")), line), [("aa", value)]), False, value)

    def test_another_house(self):
        claim = hall("odds(xx + xx) is even")
        other = said("odds(xx + xx) is even")
        self.assertIs(deduction_holds(claim, (by_tree(other),)), False)
        self.assertIs(deduction_holds(claim, (by_tree(other), by_tree(claim))), False)
        self.assertIs(deduction_holds(claim, (by_tree(claim),)), True)

    def test_right_lines_keep_truth(self):
        """Each line of random whys that is right has a true claim if the claims that it can use are true."""
        chance = random.Random(67)
        counts = {}
        for _ in range(400):
            house = random_house(chance, "ab", 2, 1)
            names = ("xx", "yy")
            premises = [random_saying(chance, house, names, chance.randint(0, 2)) for _ in range(3)]
            premises = [one for one in premises if holds(one)] or [Saying(house, ("or", premises[0], premises[0].negated()))]
            at = chance.randrange(len(premises))
            used = premises[at]
            term = chance.choice([Term.of_row("a"), Term.of_name("xx"), Term.of_name("yy") + Term.of_row("b"), Term([])])
            name = chance.choice(names)
            try:
                put = used.put(name, term)
            except Exception:
                put = used
            inner = used.form[2] if used.form[0] in ("all", "some") else used
            claims = [used, put, Saying(house, ("all", name, used)), Saying(house, ("some", name, used)), inner, Saying(house, ("some", name, inner)),
                      random_saying(chance, house, names, 1), Saying(house, ("or", used, put)), Saying(house, ("and", used, premises[0]))]
            whys = [("put", at, name, term), ("all", at), ("some", at, term), ("cases", (at, 0)), ("alike", at), ("grow", name, at, (0, at)),
                    ("tree", tree_for(used))]
            told, lines = taken(*premises)
            for claim, why in product(claims, whys):
                if first_wrong((*lines, (claim, why)), told) is None:
                    counts[why[0]] = counts.get(why[0], 0) + 1
                    self.assertTrue(holds(claim), (str(claim), why, list(map(str, premises))))
        self.assertTrue(all(counts.get(word, 0) > 20 for word in ("put", "all", "some", "cases", "alike", "tree")), counts)

    def test_right_bounds_keep_truth(self):
        texts = ["1 * size(row)", "2 * peak(row) + -1 * size(row)", "-1 * size(row)", "1 * peak(row) + -1 * size(row) + 2"]
        sayings = ["ends(row) is ends(row)", "ends(row) is yes", "odds('a') is even", "( odds(row) is odd and ends(row) is yes )"]
        claims = [bound(text, most, saying) for text in texts for most in (-1, 0, 2) for saying in sayings]
        true = [claim for claim in claims if at_most(claim[1], claim[3], claim[2])]
        steps = [hall(f"( if {one} then {other} )") for one, other in product(sayings, repeat=2)]
        steps = [step for step in steps if holds(step)]
        found = 0
        for claim, used, step in product(claims, true, steps):
            told, lines = taken(used, step)
            if first_wrong((*lines, (claim, ("weaker", 0, 1))), told) is None:
                found += 1
                self.assertIn(claim, true)
        self.assertGreater(found, 50)


if __name__ == "__main__":
    unittest.main()
