"""[9], [10], [11]: terms."""

import random
import unittest

from allrows.changes import Change
from allrows.errors import InvalidTerm, InvalidText, NoName
from allrows.terms import Term, is_over
from support import NAMES_THAT_ARE_NONE, SWAP, Checks, any_values, random_change, random_term, rows_to

PLAIN, VOID, HALF = Change("ab", ["a", "b"]), Change("ab", ["", ""]), Change("ab", ["ab", ""])


def tally(row, signs):
    return tuple(row.count(sign) for sign in signs)


class TermTest(Checks, unittest.TestCase):
    def test_normal_form(self):
        name = ("name", "xx", True, HALF)
        self.check_same(Term([]).parts, ())
        self.check_same(Term([("row", "a"), ("row", ""), ("row", "b"), name, ("row", "")]).parts, (("row", "ab"), name))
        self.check_same(Term((("row", "a"), ("name", "xx", False, VOID), ("row", "b"))).parts, (("row", "ab"),))
        self.check_same(Term([("name", "xx", True, PLAIN)]).parts, (("name", "xx", True, None),))
        self.check_same(Term([("row", ""), ("name", "xx", True, VOID)]).parts, ())
        self.check_same(Term([name, name]).parts, (name, name))
        self.check_same(Term(parts=[("row", "xyz")]).parts, (("row", "xyz"),))
        self.check_same(Term([("name", "xx", False, Change("x", ["x"]))]).parts, (("name", "xx", False, None),))

    def test_later_changes(self):
        parts = [("row", "a")]
        term = Term(parts)
        parts.append(("row", "b"))
        self.assertEqual(term.parts, (("row", "a"),))

    def test_wrong_things(self):
        good = ("row", "a")
        for value in any_values():
            if not isinstance(value, (list, tuple)):
                self.check_error(InvalidTerm, lambda: Term(value), at=0)
            if not (value.__class__ is tuple and value in (("row", "a"), ("name", "xx", False, None))):
                self.check_error(InvalidTerm, lambda: Term([value, good]), at=0)
                self.check_error(InvalidTerm, lambda: Term((good, good, value, None)), at=2)

    def test_wrong_parts(self):
        wrong = [("row",), ("row", "a", "b"), ("row", "A"), ("row", None), ("row", ["a"]), ("name", "xx"), ("row", "a b"),
                 ("name", "xx", False), ("name", "xx", 0, None), ("name", "xx", 1, None), ("name", "xx", None, None),
                 ("name", "xx", False, False), ("name", "xx", False, "[a,b]"), ("name", "xx", False, ("a", "b")),
                 ("name", "xx", False, None, None), ["name", "xx", False, None], ("row", True), ("Row", "a"), ("name", 3, True, None),
                 (SWAP, "a"), (["row"], "a"), (None, "xx", False, None), "row", (), ("name", ["xx"], False, None)]
        wrong += [("name", name, False, None) for name in NAMES_THAT_ARE_NONE]
        for part in wrong:
            self.check_error(InvalidTerm, lambda: Term([part]), at=0)
            self.check_error(InvalidTerm, lambda: Term([("row", "b"), part, part]), at=1)
        self.assertEqual(Term([("name", "backs", False, None)]).names, ("backs",))

    def test_one_part(self):
        self.assertEqual(Term.of_row("ab").parts, (("row", "ab"),))
        self.assertEqual(Term.of_row(row="").parts, ())
        self.assertEqual(Term.of_name(name="xx").parts, (("name", "xx", False, None),))

    def test_names(self):
        term = Term([("name", "yy", True, SWAP), ("name", "xx", False, None), ("name", "yy", False, None), ("name", "aa", True, VOID)])
        self.check_same(term.names, ("xx", "yy"))
        self.check_same(Term.of_row("a").names, ())

    def test_equal(self):
        self.assertTrue(Term.of_name("xx") == Term([("row", ""), ("name", "xx", False, PLAIN)]))
        self.assertFalse(Term.of_name("xx") == Term([("name", "xx", True, None)]))
        for value in any_values():
            self.assertFalse(Term.of_name("yy") == value)
        with self.assertRaises(TypeError):
            iter(Term.of_name("xx"))
        with self.assertRaises(TypeError):
            Term.of_name("xx") + "a"


class DeedsTest(Checks, unittest.TestCase):
    """Whatever is done with terms shows in the rows that they tell."""

    def setUp(self):
        chance = random.Random(4)
        self.chance = chance
        self.terms = [random_term(chance, "ab") for _ in range(150)]
        self.rows = [{"xx": chance.choice(rows_to("ab", 3)), "yy": chance.choice(rows_to("ab", 3)), "zz": "a"} for _ in range(150)]

    def test_spelled_part_by_part(self):
        term = Term([("row", "a"), ("name", "xx", False, HALF), ("name", "xx", True, Change("ab", ["ab", "a"])), ("name", "yy", True, None)])
        self.assertEqual(term.spelled({"xx": "aab", "yy": "ab", "zz": ""}), "a" + "abab" + "ababa"[::-1] + "ba")
        self.assertEqual(Term([]).spelled({}), "")
        self.assertEqual(Term.of_name("xx").spelled(rows={"xx": ""}), "")

    def test_names_without_a_row(self):
        term = Term([("name", "yy", False, None), ("name", "xx", False, None)])
        self.check_error(NoName, lambda: term.spelled({}), name="xx")
        self.check_error(NoName, lambda: term.spelled({"xx": "a"}), name="yy")
        self.check_error(NoName, lambda: term.counted("ab", {"zz": (1, 1)}), name="xx")
        self.check_error(NoName, lambda: term.counted("ab", {"xx": (1, 1)}), name="yy")

    def test_put_together(self):
        for one, other, rows in zip(self.terms, self.terms[1:], self.rows):
            self.assertEqual((one + other).spelled(rows), one.spelled(rows) + other.spelled(rows))
        self.assertEqual((Term.of_row("a") + Term.of_row("b")).parts, (("row", "ab"),))

    def test_back(self):
        for term, rows in zip(self.terms, self.rows):
            self.assertEqual(term.back().spelled(rows), term.spelled(rows)[::-1])
            self.assertEqual(term.back().back(), term)
            self.assertEqual(len(term.back().parts), len(term.parts))
        self.check_same(Term([("row", "ab"), ("name", "xx", False, HALF)]).back().parts, (("name", "xx", True, HALF), ("row", "ba")))

    def test_through(self):
        for term, rows in zip(self.terms, self.rows):
            for change in (SWAP, PLAIN, VOID, random_change(self.chance, "ab")):
                self.assertEqual(term.through(change).spelled(rows), change.of(term.spelled(rows)))
            self.assertEqual(term.through(PLAIN), term)
            self.assertEqual(term.through(change=VOID).parts, ())
        part = Term([("name", "xx", True, None)]).through(Change("ab", ["ab", "b"])).parts[0]
        self.check_same(part, ("name", "xx", True, Change("ab", ["ba", "b"])))

    def test_put(self):
        for term, other, rows in zip(self.terms, self.terms[1:], self.rows):
            put = {"xx": other.spelled(rows), "yy": rows["yy"]}
            self.assertEqual(term.put("xx", other).spelled(rows), term.spelled(put))
            self.assertEqual(term.put(name="none", term=other), term)
        twice = Term.of_name("xx") + Term.of_row("a") + Term.of_name("xx")
        self.assertEqual(str(twice.put("xx", Term.of_name("xx") + Term.of_name("yy"))), "xx + yy + 'a' + xx + yy")
        self.assertEqual(str(twice.put("xx", Term.of_row("b"))), "'bab'")
        self.assertEqual(twice.put("xx", Term([])).parts, (("row", "a"),))

    def test_rows_that_look_like_names(self):
        term = Term.parse("x", "'xx' + xx + 'xx'")
        self.assertEqual(term.names, ("xx",))
        self.assertEqual(str(term.put("xx", Term.of_row("x"))), "'xxxxx'")
        self.assertEqual(term.spelled({"xx": "xxx"}), "x" * 7)
        self.assertEqual(str(Term.of_row("xx").put("xx", Term.of_name("yy"))), "'xx'")

    def test_counted(self):
        for term, rows in zip(self.terms, self.rows):
            tallies = {name: tally(row, "ab") for name, row in rows.items()}
            self.check_same(term.counted("ab", tallies), tally(term.spelled(rows), "ab"))
        self.check_same(Term([]).counted("abc", {}), (0, 0, 0))
        self.check_same(Term.of_row("cac").counted(signs="abc", tallies={}), (1, 0, 2))
        big = Term([("name", "xx", True, Change("abc", ["bb", "", "abc"]))])
        self.check_same(big.counted("abc", {"xx": (10 ** 12, 5, 1)}), (1, 2 * 10 ** 12 + 1, 1))

    def test_is_over(self):
        self.assertIs(is_over(Term([]), "a"), True)
        self.assertIs(is_over(Term.of_row("ab"), "ab"), True)
        self.assertIs(is_over(Term.of_row("ab"), "abc"), True)
        self.assertIs(is_over(Term.of_row("abc"), "ab"), False)
        self.assertIs(is_over(Term.of_name("zz"), "ab"), True)
        self.assertIs(is_over(Term([("name", "xx", False, SWAP)]), "ab"), True)
        self.assertIs(is_over(Term([("name", "xx", False, SWAP)]), "abc"), False)
        self.assertIs(is_over(term=Term([("name", "xx", False, SWAP), ("row", "c")]), signs="ab"), False)


class TextTest(Checks, unittest.TestCase):
    def test_text(self):
        term = Term([("row", "ab"), ("name", "xx", False, None), ("name", "yy", True, None), ("name", "xx", False, HALF),
                     ("name", "xx", True, SWAP)])
        self.assertEqual(str(term), "'ab' + xx + back yy + [ab,](xx) + back [b,a](xx)")
        self.assertEqual(str(Term([])), "''")
        self.assertEqual(str(Term([("row", "")])), "''")

    def test_round(self):
        chance = random.Random(5)
        for signs in ("x", "ab", "abc"):
            for _ in range(100):
                term = random_term(chance, signs)
                self.assertEqual(Term.parse(signs, str(term)), term)

    def test_not_in_normal_form(self):
        for text, normal in (("''", "''"), ("'' + xx + ''", "xx"), ("'a' + 'b'", "'ab'"), ("[a,b](xx)", "xx"), ("'a' + [,](xx) + 'b'", "'ab'"),
                             ("back [a,b](xx)", "back xx"), ("back [,](xx)", "''"), ("'' + ''", "''"), ("'a' + '' + 'b' + xx", "'ab' + xx")):
            self.assertEqual(str(Term.parse("ab", text)), normal)
        self.assertEqual(Term.parse(text="xx", signs="ab"), Term.of_name("xx"))

    def test_wrong_values(self):
        for value in any_values():
            if value.__class__ is str and value in ("aa", "ab", "ba", "xx", "abc"):
                self.assertEqual(Term.parse("ab", value), Term.of_name(value))
            else:
                self.check_error(InvalidText, lambda: Term.parse("ab", value), at=0)

    def test_wrong_parts(self):
        wrong = ["", " ", "'", "'a", "a'", "'c'", "'A'", "''a", "'a''", "\"a\"", "xx ", " xx", "back", "back ", "back 'a'", "back  xx", "xx yy",
                 "back back xx", "[a,b]", "[a,b]xx", "[a,b](xx", "[a,b] (xx)", "[a](xx)", "[a,b,a](xx)", "[a,c](xx)", "[a,b]('a')", "[a,b](back xx)",
                 "[a,b](back)", "[a,b]()", "(xx)", "xx)", "[a,b](xx))", "[a,b](xx)x", "[a,b](xxx", "[a,b](xx]", "xx+yy", "xx +", "+ xx", "+", "Xx", "x", "abcdefg", "xx\n",
                 "back.xx", "Back xx", "back[a,b](xx)", "[b,a]([b,a](xx))", "back [a](xx)"]
        wrong += list(NAMES_THAT_ARE_NONE) + [f"back {name}" for name in NAMES_THAT_ARE_NONE] + [f"[b,a]({name})" for name in NAMES_THAT_ARE_NONE]
        for text in wrong:
            self.check_error(InvalidText, lambda: Term.parse("ab", text), at=0)
            self.check_error(InvalidText, lambda: Term.parse("ab", "xx + 'a' + " + text), at=2)
            if text not in ("+ xx", "+"):
                self.check_error(InvalidText, lambda: Term.parse("ab", text + " + xx + ?"), at=0 if text != "xx +" else 1)

    def test_first_wrong_part(self):
        self.check_error(InvalidText, lambda: Term.parse("ab", "xx + 'c' + 'd'"), at=1)
        self.check_error(InvalidText, lambda: Term.parse("ab", "xx +  + yy"), at=1)
        self.check_error(InvalidText, lambda: Term.parse("ab", "xx + yy + "), at=2)


if __name__ == "__main__":
    unittest.main()
