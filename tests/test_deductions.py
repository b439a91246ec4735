"""[68], [69], [70]: what lines use, deductions shortened, filled, made and mended."""

import random
import unittest

from allrows.claims import failing_rows
from allrows.deciding import fails, holds
from allrows.deductions import deduction_of, failures, filled, grown, kept, mended, shortened, told_of, uses
from allrows.errors import NoName
from allrows.heights import at_most, heights
from allrows.houses import House
from allrows.looker import deduction_holds, first_wrong
from allrows.sayings import Saying
from allrows.sums import worth
from allrows.terms import Term
from allrows.trees import tree_for
from allrows.wheres import where
from allrows.conditions import every
from support import ODD, Checks, any_values, random_house, random_saying, rows_to, small_sayings
from test_looker import HALL, HOME, bound, by_heights, by_tree, hall, said, taken

TRUE, FALSE = said("odds(xx + xx) is even"), said("odds(xx) is even")


def random_why(chance, at, names=("aa", "bb")):
    """A why for the line with this number, of some form, or of none."""
    def line():
        return chance.randrange(at) if at else 0

    return chance.choice([("told", chance.choice(names)), ("cases", tuple(line() for _ in range(chance.randint(0, 3)))), ("put", line(), "xx", Term([])),
                          ("all", line()), ("some", line(), Term([])), ("grow", "xx", line(), (line(), line())), ("alike", line()),
                          ("weaker", line(), line()), ("sum", line(), line()), ("tree", (0, 0)), ("heights", ()), None, ("cases", [line()]),
                          ("all", True), ("all", at), ("put", -1, "xx", Term([])), ("told", "aa", 0)])


def numbers(why, at):
    """The numbers of lines that a why uses at once, if it is of a form at all."""
    if not isinstance(why, tuple) or not why or not isinstance(why[0], str):
        return []
    told = {("put", 4): why[1:2], ("alike", 2): why[1:2], ("all", 2): why[1:2], ("some", 3): why[1:2], ("weaker", 3): why[1:3], ("sum", 3): why[1:3],
            ("cases", 2): why[1] if len(why) > 1 else (), ("grow", 4): (why[2], *why[3]) if len(why) > 3 and isinstance(why[3], tuple) else ()}
    found = told.get((why[0], len(why)), ())
    if isinstance(found, tuple) and all(isinstance(one, int) and not isinstance(one, bool) and 0 <= one < at for one in found):
        return list(found)
    return []


def random_lines(chance, most=6):
    claims = [TRUE, FALSE, said("odds('aa') is even"), bound("1 * size(row)", 1)[3]]
    return tuple((chance.choice(claims), random_why(chance, at)) for at in range(chance.randint(1, most)))


class UsesTest(Checks, unittest.TestCase):
    def through(self, lines, at):
        found = set(numbers(lines[at][1], at))
        for number in list(found):
            found |= self.through(lines, number)
        return found

    def test_told_lines(self):
        lines = (by_tree(TRUE), (TRUE, ("cases", (0, 0))), (TRUE, ("told", "aa")), (TRUE, ("cases", (2, 1))), (TRUE, ("all", 3)), (TRUE, None))
        self.check_same(uses(lines), ((), (0,), (), (0, 1, 2), (0, 1, 2, 3), ()))
        self.check_same(uses(lines=(by_tree(TRUE),)), ((),))
        lines = ((TRUE, None), (TRUE, None), (TRUE, ("grow", "xx", 1, (0, 1))), (TRUE, ("weaker", 0, 2)), (TRUE, ("sum", 1, 0)), (TRUE, ("some", 4, Term([]))),
                 (TRUE, ("put", 5, "xx", Term([]))), (TRUE, ("alike", 3)))
        self.check_same(uses(lines), ((), (), (0, 1), (0, 1, 2), (0, 1), (0, 1, 4), (0, 1, 4, 5), (0, 1, 2, 3)))

    def test_whys_of_other_forms(self):
        for value in any_values() + [("all", 2), ("all", True), ("all", -1), ("all", 0, 0), ["all", 0], ("cases", [0]), ("cases", 0), ("cases", (0, 2)),
                                     ("cases", (0, True)), ("sum", 0, 2), ("sum", 0), ("tree", 0), ("heights", 0), ("told", 0), ("grow", "xx", 0, (1, 2)),
                                     ("put", 0, "xx"), ("some", 0)]:
            self.check_same(uses(((TRUE, None), (TRUE, None), (TRUE, value))), ((), (), ()))
            self.check_same(told_of(((TRUE, ("told", "aa")), (TRUE, None), (TRUE, value))), ())
            line = (TRUE, value)
            self.assertEqual(shortened(((TRUE, ("told", "aa")), (TRUE, None), line)), (line,))

    def test_by_definition(self):
        chance = random.Random(68)
        for _ in range(400):
            lines = random_lines(chance)
            used = [self.through(lines, at) for at in range(len(lines))]
            self.check_same(uses(lines), tuple(tuple(sorted(one)) for one in used))
            wanted = sorted(used[-1] | {len(lines) - 1})
            names = {why[1] for _, why in (lines[at] for at in wanted) if isinstance(why, tuple) and why[0] == "told" and len(why) == 2}
            self.check_same(told_of(lines=lines), tuple(sorted(names)))
            told = shortened(lines=lines)
            self.assertEqual([line[0] for line in told], [lines[at][0] for at in wanted])
            for at, number in enumerate(wanted):
                self.assertEqual(numbers(told[at][1], at), [wanted.index(one) for one in numbers(lines[number][1], number)])
            self.assertEqual(uses(told)[-1], tuple(range(len(told) - 1)))
            self.assertEqual(shortened(told), told)

    def test_told_of(self):
        lines = ((TRUE, ("told", "bb")), (TRUE, ("told", "cc")), (TRUE, ("told", "aa")), (TRUE, ("told", "bb")), (TRUE, ("cases", (0, 2, 3))))
        self.check_same(told_of(lines), ("aa", "bb"))
        self.check_same(told_of(lines[:2]), ("cc",))
        self.check_same(told_of((by_tree(TRUE),)), ())

    def test_shortened(self):
        put = said("odds('aa') is even")
        lines = (by_tree(TRUE), (put, ("told", "aa")), (put, ("put", 0, "xx", Term.of_row("a"))), (put, ("cases", (2, 2))))
        told = shortened(lines)
        self.assertEqual(told, (lines[0], (put, ("put", 0, "xx", Term.of_row("a"))), (put, ("cases", (1, 1)))))
        self.assertIs(deduction_holds(put, told), True)
        self.assertEqual(shortened(lines[:1]), lines[:1])


class FilledTest(Checks, unittest.TestCase):
    def test_told_lines(self):
        put = said("odds('aa') is even")
        lines = ((FALSE, ("told", "bb")), (TRUE, ("told", "aa")), (TRUE, ("told", "aa")), (put, ("put", 2, "xx", Term.of_row("a"))),
                 (put, ("cases", (3, 3))), (Saying(HOME, ("and", put, TRUE)), ("cases", (4, 1))))
        other = ((put, ("told", "cc")), by_tree(TRUE))
        told = filled(lines, "aa", other)
        self.check_same(told, (*other, lines[0], (put, ("put", 1, "xx", Term.of_row("a"))), (put, ("cases", (3, 3))),
                               (lines[-1][0], ("cases", (4, 1)))))
        self.assertIs(deduction_holds(lines[-1][0], told, [("bb", FALSE), ("cc", put)]), True)
        # a name that nothing is told by, and one under which another claim is told
        for name in ("dd", "bb"):
            further = filled(lines=lines, name=name, other=other)
            self.assertEqual([line[0] for line in further], [line[0] for line in other + lines])
            self.assertEqual(further[-1][1], ("cases", (6, 3)))
        # one that nothing uses
        self.check_same(filled(((TRUE, ("told", "aa")), (put, None)), "aa", other), (*other, (put, None)))
        self.check_same(filled(((TRUE, ("told", "aa")),), "aa", other), other)
        # whys of other forms
        for why in (["told", "aa"], ("told", "aa", 0), ("told",), None):
            self.check_same(filled(((TRUE, why),), "aa", other), (*other, (TRUE, why)))

    def test_bounds(self):
        one, other = bound("2 * peak(row) + -1 * size(row)", 0), bound("-1 * size(row)", 0)
        both = bound("2 * peak(row) + -1 * size(row) + -1 * size(row)", 0)
        lines = ((one, ("told", "aa")), (other, ("told", "bb")), (both, ("sum", 0, 1)))
        told = filled(filled(lines, "aa", (by_heights(one),)), "bb", (by_heights(other),))
        self.assertEqual(len(told), 3)
        self.assertIs(deduction_holds(both, told), True)

    def test_by_definition(self):
        chance = random.Random(69)
        for _ in range(300):
            lines, other = random_lines(chance), random_lines(chance, 3)
            told = filled(lines, "aa", other)
            left = [at for at, line in enumerate(lines) if line != (other[-1][0], ("told", "aa"))]
            self.assertEqual(told[:len(other)], other)
            self.assertEqual([line[0] for line in told[len(other):]], [lines[at][0] for at in left])
            for place, at in enumerate(left, len(other)):
                turned = [len(other) + left.index(one) if one in left else len(other) - 1 for one in numbers(lines[at][1], at)]
                if numbers(lines[at][1], at):
                    self.assertEqual(numbers(told[place][1], place), turned)
                else:
                    self.assertEqual(told[place][1], lines[at][1])


class MadeTest(Checks, unittest.TestCase):
    def test_deduction_of(self):
        for saying in small_sayings(69, 80, 40, ("xx", "yy"), 2, 1):
            told = deduction_of(claim=saying)
            self.assertIs(told is None, not holds(saying))
            if told is not None:
                self.assertEqual((len(told), told[0][0], told[0][1][0]), (1, saying, "tree"))
                self.assertIs(deduction_holds(saying, told), True)
        for text, most, saying in (("2 * peak(row) + -1 * size(row)", 0, "odds(row) is odd"), ("2 * peak(row) + -1 * size(row)", -1, "ends(row) is yes"),
                                   ("2 * peak(row) + -1 * size(row)", -1, "odds(row) is odd"), ("1 * size(row)", 10 ** 12, "odds(row) is odd"),
                                   ("1 * size(row)", -5, "odds('a') is even")):
            claim = bound(text, most, saying)
            told = deduction_of(claim)
            self.assertIs(told is not None, at_most(claim[1], claim[3], claim[2]))
            if told is not None:
                self.assertEqual((len(told), told[0][0], told[0][1][0]), (1, claim, "heights"))
                self.assertIs(deduction_holds(claim, told), True)

    def test_grown(self):
        for text, name in (("odds(xx + xx) is even", "xx"), ("odds(xx + yy) is odds(yy + xx)", "yy"), ("( if ends(xx) is yes then for some yy odds(xx + yy) is even )", "xx")):
            saying = said(text)
            lines = grown(saying=saying, name=name)
            self.assertEqual(len(lines), 4)
            self.check_same(lines[-1][1], ("grow", name, 0, (1, 2)))
            self.assertEqual(lines[0][0], saying.put(name, Term([])))
            for line, sign in zip(lines[1:3], "ab"):
                self.assertEqual(line[0], Saying(HOME, ("if", saying, saying.put(name, HOME.term(f"{name} + '{sign}'")))))
            self.assertEqual([line[1][0] for line in lines], ["tree", "tree", "tree", "grow"])
            self.assertIs(deduction_holds(saying, lines), True)
        self.assertIsNone(grown(said("odds(xx) is even"), "xx"))
        self.assertIsNone(grown(said("odds(xx + 'a') is even"), "xx"))
        for saying in small_sayings(70, 60, 20, ("xx", "yy"), 2, 1):
            for name in saying.names:
                lines = grown(saying, name)
                self.assertIs(lines is None, not holds(saying))
                if lines is not None:
                    self.assertEqual(len(lines), len(saying.house.signs) + 2)
                    self.assertIs(deduction_holds(saying, lines), True)

    def test_kept(self):
        self.assertEqual(str(kept(said("odds(xx) is even"), "xx")), "for all aa odds(xx + aa) is even")
        self.assertEqual(str(kept(saying=said("( odds(aa + ac) is even or for all ab odds(xx + [b,a](aa)) is even )"), name="aa")),
                         "for all ad ( odds(aa + ad + ac) is even or for all ab odds(xx + [b,a](aa) + [b,a](ad)) is even )")
        self.assertEqual(str(kept(said("for some aa odds(back xx) is even"), "xx")), "for all ab for some aa odds(back ab + back xx) is even")
        # a name that is bound, and free elsewhere
        self.assertEqual(str(kept(said("( for all xx odds(xx) is even or odds(xx) is even )"), "xx")),
                         "for all aa ( for all xx odds(xx) is even or odds(xx + aa) is even )")
        # names in their order leave out those that are words: 12 of aa .. al, and "is" is none at all
        letters = "abcdefghijklmnopqrstuvwxyz"
        taken_names = ["a" + letter for letter in letters]
        text = "odds(xx) is even"
        for name in taken_names:
            text = f"for all {name} {text}"
        self.assertEqual(kept(said(text), "xx").form[1], "ba")

    def test_kept_ones_grow(self):
        for saying in small_sayings(71, 60, 20, ("xx", "yy"), 2, 1):
            for name in saying.names:
                told = kept(saying, name)
                self.assertEqual(told.names, saying.names)
                one = Saying(saying.house, ("if", told, saying))
                self.assertIs(holds(one), True)
                for sign in saying.house.signs:
                    longer = told.put(name, Term.of_name(name) + Term.of_row(sign))
                    self.assertIs(holds(Saying(saying.house, ("if", told, longer))), True)
                self.assertIs(holds(saying), holds(told.put(name, Term([]))))
                if saying.names == (name,):
                    condition, all_kept = where(saying, name), where(told, name)
                    for row in rows_to(saying.house.signs, 2):
                        goes_on = all(condition.lets(row + more) for more in rows_to(saying.house.signs, 6 if saying.house.signs == "ab" else 12))
                        self.assertIs(all_kept.lets(row), goes_on)
                    self.assertIs(condition == every(saying.house.signs), holds(saying))

    def test_names_that_are_not_free(self):
        saying = said("( odds(xx) is even or for all yy odds(yy) is even )")
        for value in any_values() + ["yy", "zz", "odds", "even"]:
            if value != "xx":
                self.check_error(NoName, lambda: grown(saying, value), name=value)
                self.check_error(NoName, lambda: kept(saying, value), name=value)
        self.assertTrue(issubclass(NoName, KeyError))


class MendedTest(Checks, unittest.TestCase):
    def test_failures(self):
        put = said("odds('aa') is even")
        lines = ((FALSE, ("cases", ())), (put, ("put", 0, "xx", Term.of_row("aa"))), (TRUE, None), by_tree(TRUE), (FALSE, ("told", "aa")))
        self.check_same(failures(lines), ((0, False, (("xx", "a"),)), (2, False, None), (4, False, (("xx", "a"),))))
        self.check_same(failures(lines=lines, told=[("aa", FALSE)]), ((0, False, (("xx", "a"),)), (2, False, None), (4, True, (("xx", "a"),))))
        self.check_same(failures((by_tree(TRUE),)), ())
        self.check_same(failures(((said("odds('a') is even"), None),)), ((0, False, ()),))

    def test_failures_of_bounds(self):
        good, bad = bound("2 * peak(row) + -1 * size(row)", 0), bound("1 * size(row)", 7, "odds(row) is odd")
        told = failures((by_heights(good), (bad, ("told", "aa")), (good, None)), [("aa", bad)])
        self.assertEqual([(number, is_right) for number, is_right, _ in told], [(1, True), (2, False)])
        self.assertIsNone(told[1][2])
        rows = told[0][2]
        self.assertEqual([name for name, _ in rows], ["row"])
        self.assertGreater(worth(HALL, bad[1], dict(rows)), 7)
        self.assertEqual(ODD.read(dict(rows)["row"]), "odd")

    def test_mended(self):
        put = said("odds('aa') is even")
        lines = ((FALSE, ("cases", ())), (put, ("put", 0, "xx", Term.of_row("aa"))))
        told = mended(lines)
        self.assertEqual([why[0] for _, why in told], ["tree"])
        self.assertIs(deduction_holds(put, told), True)
        self.assertIsNone(mended(lines[:1]))
        self.assertIsNone(mended(((FALSE, ("told", "aa")),), [("aa", FALSE)]))
        # what is right stays
        lines = ((TRUE, ("told", "aa")), (TRUE, None), (put, ("put", 1, "xx", Term.of_row("a"))), (FALSE, None), (put, ("cases", (2, 2))))
        told = mended(lines=lines, told=[("aa", TRUE)])
        self.assertEqual([(claim, why[0]) for claim, why in told], [(TRUE, "tree"), (put, "put"), (put, "cases")])
        self.assertEqual((told[1][1], told[2][1]), (("put", 0, "xx", Term.of_row("a")), ("cases", (1, 1))))
        self.assertEqual(mended(lines[:1], [("aa", TRUE)]), lines[:1])
        self.assertEqual([why[0] for _, why in mended(lines[:1])], ["tree"])

    def test_what_rests_on_what_goes(self):
        put = said("odds('aa') is even")
        lines = ((FALSE, ("told", "aa")), (put, ("put", 0, "xx", Term.of_row("aa"))), (put, ("cases", (1,))))
        told = mended(lines, [("aa", FALSE)])
        self.assertIs(deduction_holds(put, told), True)
        self.assertEqual([why[0] for _, why in told], ["tree"])

    def test_mended_bounds(self):
        good, bad = bound("2 * peak(row) + -1 * size(row)", 0), bound("1 * size(row)", 7, "odds(row) is odd")
        step = hall("( if ends(row) is yes then ends(row) is ends(row) )")
        weaker = (*good[:3], hall("ends(row) is yes"))
        lines = ((bad, None), (good, None), (step, ("cases", ())), (weaker, ("weaker", 1, 2)))
        told = mended(lines)
        self.assertEqual([why[0] for _, why in told], ["heights", "tree", "weaker"])
        self.assertIs(deduction_holds(weaker, told), True)
        self.assertIsNone(mended(lines[:1]))

    def test_random_lines(self):
        chance = random.Random(70)
        is_mended = 0
        for _ in range(150):
            house = random_house(chance, "ab", 2)
            pool = [random_saying(chance, house, ("xx", "yy"), chance.randint(0, 1)) for _ in range(3)]
            pool += [Saying(house, ("or", pool[0], pool[0].negated())), Saying(house, ("all", "xx", pool[1])), pool[2].put("xx", Term([]))]
            told = [("aa", pool[0]), ("bb", pool[3])]
            lines = tuple((chance.choice(pool), random_why(chance, at)) for at in range(chance.randint(1, 6)))
            found = {number: (is_right, rows) for number, is_right, rows in failures(lines, told)}
            for at, (claim, why) in enumerate(lines):
                # the lines ahead are told, so that this one alone is looked at
                names = ["told" + letter for letter in "abcdef"]
                ahead = tuple((line[0], ("told", name)) for line, name in zip(lines[:at], names))
                is_right = first_wrong((*ahead, (claim, why)), told + [(name, line[0]) for line, name in zip(lines, names)]) is None
                self.check_same(found.get(at, (True, None)), (is_right, fails(claim)))
            told_lines = mended(lines, told)
            self.assertIs(told_lines is None, not holds(lines[-1][0]))
            if told_lines is not None:
                is_mended += 1
                self.assertIs(deduction_holds(lines[-1][0], told_lines, told), True)
                self.assertEqual(shortened(told_lines), told_lines)
                self.assertTrue(all(failing_rows(claim) is None for claim, _ in told_lines))
        self.assertGreater(is_mended, 30)

    def test_the_first_untrue_line_is_not_right(self):
        chance = random.Random(71)
        for _ in range(200):
            lines = random_lines(chance)
            told = [("aa", TRUE)]
            found = [(is_right, rows) for _, is_right, rows in failures(lines, told) if rows is not None]
            if found:
                self.assertIs(found[0][0], False)


if __name__ == "__main__":
    unittest.main()
