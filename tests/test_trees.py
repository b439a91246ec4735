"""[42], [43]: trees."""

import random
import unittest

from allrows.deciding import fails, holds, sight_of
from allrows.sayings import Saying
from allrows.terms import Term
from allrows.trees import tree_against, tree_against_holds, tree_for, tree_for_holds
from support import HOME, Checks, any_values, small_sayings

EVEN, TURN = ("even", "odd"), ("odd", "even")
LOT = ((EVEN,), (TURN,))


def said(text):
    return Saying.parse(HOME, text)


def shows(saying, tree, is_holding, rows):
    """Whether a tree is right, as it is described: points of rows are told by rows that have them.

    The trees of this package name just points that rows have, so rows can stand for them.
    """
    form = saying.form
    if form[0] in ("is", "same"):
        word, reader, term = form[:3]
        end = saying.house.reader_of(reader).read(term.spelled(rows))
        told = form[3] if word == "is" else saying.house.reader_of(form[3]).read(form[4].spelled(rows))
        return tree == () and tree.__class__ is tuple and (end == told) == is_holding
    if form[0] == "not":
        return shows(form[1], tree, not is_holding, rows)
    if form[0] in ("and", "or", "if"):
        one = form[1].negated() if form[0] == "if" and form[1].form[0] != "not" else form[1]
        one_holding = is_holding
        if form[0] == "if" and form[1].form[0] == "not":
            one, one_holding = form[1], not is_holding
        if (form[0] == "and") == is_holding:
            return len(tree) == 2 and shows(one, tree[0], one_holding, rows) and shows(form[2], tree[1], is_holding, rows)
        if len(tree) != 2 or tree[0].__class__ is not int or tree[0] not in (0, 1):
            return False
        return shows(one, tree[1], one_holding, rows) if tree[0] == 0 else shows(form[2], tree[1], is_holding, rows)
    word, name, inner = form
    sight = sight_of(inner, name)
    if (word == "all") != is_holding:
        return len(tree) == 3 and tree[0] == "row" and shows(inner, tree[2], is_holding, {**rows, name: tree[1]})
    listed = {(): ""} if sight is None else dict(sight.points())
    if len(tree) != 3 or tree[0] != "lot" or tree[1] != tuple(sorted(listed)) or len(tree[2]) != len(tree[1]):
        return False
    return all(shows(inner, own, is_holding, {**rows, name: listed[point]}) for point, own in zip(tree[1], tree[2]))


def closed(saying):
    for name in reversed(saying.names):
        saying = Saying(saying.house, ("all", name, saying))
    return saying


def spoilt(tree):
    """Values that are unlike a tree at one place."""
    if not isinstance(tree, tuple):
        return [None, 2, True, "some", [tree]]
    found = [list(tree), tree + ((),)] + [tree + tree] * (len(tree) > 0)
    found += [tree[:at] + tree[at + 1:] for at in range(len(tree))]
    found += [tree[:at] + (other,) + tree[at + 1:] for at in range(len(tree)) for other in spoilt(tree[at])]
    return found


class TreesTest(Checks, unittest.TestCase):
    def test_told_trees(self):
        for text, tree in (("odds('aa') is even", ()), ("not odds('a') is even", ()), ("odds('aa') is ends('a')", None),
                           ("( odds('aa') is even and odds('a') is odd )", ((), ())), ("( odds('a') is even or odds('a') is odd )", (1, ())),
                           ("( if odds('a') is even then odds('a') is odd )", None), ("for some row odds(row) is odd", ("row", "a", ())),
                           ("for all row odds(row + row) is even", ("lot", LOT, ((), ()))), ("odds(row + row) is even", ("lot", LOT, ((), ()))),
                           ("for all other odds('aa') is even", ("lot", ((),), ((),))), ("for some other odds('aa') is even", ("row", "", ())),
                           ("not for all row odds(row) is even", ("row", "a", ())), ("not not odds('aa') is even", ())):
            if tree is not None:
                self.assertIs(tree_for_holds(said(text), tree), True)
                self.assertIs(tree_against_holds(said(text), tree), False)
                self.check_same(tree_for(said(text)), tree)
                self.assertIsNone(tree_against(said(text)))
                self.assertIs(tree_against_holds(said(text).negated(), tree), "row + row" not in text or "for" in text)
        both = said("( if odds('a') is even then odds('a') is odd )")
        for number in (0, 1):
            self.assertIs(tree_for_holds(both, (number, ())), True)
        for value in ((2, ()), (-1, ()), (True, ()), (False, ()), ("0", ()), ((), ()), (0, (), ()), [0, ()], (0, []), 0, (0,)):
            self.assertIs(tree_for_holds(both, value), False)
        self.assertIs(tree_for_holds(said("( if odds('a') is odd then odds('a') is odd )"), (0, ())), False)
        self.assertIs(tree_against_holds(said("( if odds('a') is odd then odds('a') is even )"), ((), ())), True)
        self.assertIs(tree_against_holds(said("( odds('a') is odd and odds('a') is even )"), (1, ())), True)
        self.assertIs(tree_against_holds(said("( odds('a') is odd and odds('a') is even )"), (0, ())), False)
        self.assertIs(tree_against_holds(said("( odds('a') is even or odds('a') is even )"), ((), ())), True)
        self.assertIs(tree_against_holds(said("( odds('a') is even or odds('a') is even )"), (0, ())), False)

    def test_free_names(self):
        saying = said("odds(one + two) is odds(one)")
        self.check_same(tree_against(saying), ("row", "", ("row", "a", ())))
        for tree in (("row", "ab", ("row", "bab", ())), ("row", "a" * 60, ("row", "a", ()))):
            self.assertIs(tree_against_holds(value=tree, saying=saying), True)
        for tree in (("row", "", ()), ("row", "a", ("row", "aa", ())), ("row", "", ("row", "c", ())), ("row", None, ("row", "a", ())),
                     ("lot", "", ("row", "a", ())), ("row", ["a"], ("row", "a", ())), ["row", "", ("row", "a", ())], ("row", "", ("row", "a", ()), ())):
            self.assertIs(tree_against_holds(saying, tree), False)
        # the first name stands outside
        saying = said("( if odds(two) is odd then odds(one) is odd )")
        self.assertIs(tree_against_holds(saying, ("row", "", ("row", "a", ((), ())))), True)
        self.assertIs(tree_against_holds(saying, ("row", "a", ("row", "", ((), ())))), False)
        inner = ("lot", LOT, ((), ()))
        saying = said("odds(one + two) is odds(two + one)")
        self.check_same(tree_for(saying), ("lot", LOT, (inner, inner)))
        self.assertIs(tree_for_holds(value=tree_for(saying), saying=saying), True)

    def test_lots(self):
        saying = said("for all row odds(row + row) is even")
        more = ((("even", "even"),), (EVEN,), (TURN,), (("odd", "odd"),))
        self.assertIs(tree_for_holds(saying, ("lot", LOT, ((), ()))), True)
        # points that are not come to: the readers told at all marks
        self.assertIs(tree_for_holds(said("for all row odds(row + back row) is even"), ("lot", tuple((one, one) for one in (EVEN, TURN)), ((), ()))), True)
        self.assertIs(tree_for_holds(said("for all row ( odds(row) is even or odds(row) is odd )"), ("lot", more, ((0, ()), (0, ()), (1, ()), (1, ())))), True)
        self.assertIs(tree_for_holds(saying, ("lot", more, ((), (), (), ()))), False)
        for value in (("lot", LOT[::-1], ((), ())), ("lot", LOT + LOT[:1], ((), (), ())), ("lot", LOT[:1] * 2, ((), ())), ("lot", LOT[:1] + LOT, ((), (), ())),
                      ("lot", LOT[:1], ((),)), ("lot", LOT[1:], ((),)), ("lot", (), ()), ("lot", LOT, ((),)), ("lot", LOT, ((), (), ())), ("lot", LOT, [(), ()]),
                      ("lot", list(LOT), ((), ())), ("lot", (EVEN, TURN), ((), ())), ("lot", ((["even", "odd"],), (TURN,)), ((), ())), ("lot", LOT, ((), 0)),
                      ("lot", ((("even", "odd", "odd"),), (TURN,)), ((), ())), ("lot", ((EVEN, EVEN), (TURN, TURN)), ((), ())), ("lot", LOT), ("Lot", LOT, ((), ())),
                      ("lot", ((("even", "none"),), (EVEN,), (TURN,)), ((), (), ())), ("row", "", ()), ("row", "a", ()), ("row", LOT, ((), ())),
                      ("lot", more[1:], ((), (), ())), ("lot", LOT, ((0, ()), ()))):
            self.assertIs(tree_for_holds(saying, value), False)
        self.assertIs(tree_for_holds(said("for some row odds(row) is odd"), ("lot", LOT, ((), ()))), False)
        self.assertIs(tree_against_holds(said("for some row odds(row + row) is odd"), ("lot", LOT, ((), ()))), True)
        self.assertIs(tree_against_holds(said("for some row odds(row + row) is odd"), ("row", "", ())), False)

    def test_names_that_stand_nowhere(self):
        saying = said("for all other odds('aa') is even")
        for value in (("lot", (), ()), ("lot", ((), ()), ((), ())), ("lot", [()], ((),)), ("lot", ([],), ((),)), ("lot", LOT, ((), ())), ("lot", ((),), ()), ("row", "", ())):
            self.assertIs(tree_for_holds(saying, value), False)
        self.assertIs(tree_for_holds(said("for some other odds('aa') is even"), ("row", "abab", ())), True)
        self.assertIs(tree_for_holds(said("for some other odds('aa') is even"), ("row", "c", ())), False)
        # bound again within: the outer one stands nowhere
        saying = said("for all row for some row odds(row) is odd")
        self.check_same(tree_for(saying), ("lot", ((),), (("row", "a", ()),)))
        self.assertIs(tree_for_holds(saying, ("lot", LOT, (("row", "a", ()), ("row", "a", ())))), False)

    def test_any_values(self):
        for text in ("odds('a') is odd", "( odds('a') is odd and odds('a') is odd )", "( odds('a') is odd or odds('a') is odd )", "for all row odds(row + row) is even",
                     "for some row odds(row) is even", "odds(row + row) is even", "for all other odds('a') is odd"):
            for value in any_values():
                self.assertIs(tree_for_holds(said(text), value), text == "odds('a') is odd" and value.__class__ is tuple and value == ())
                for tree in ((0, value), (value, ()), ("lot", LOT, value), ("lot", LOT, (value, ())), ("lot", value, ((),)), (value, LOT, ((), ())),
                             ("lot", (value,), ((),)), ("row", value, ()), ("row", "a", value), (value, "", ())):
                    self.assertIn(tree_for_holds(said(text), tree), (True, False))
                    self.assertIs(tree_against_holds(said(text), tree), False)
                    if value.__class__ is not tuple and not isinstance(value, (str, int)):
                        self.assertIs(tree_for_holds(said(text), tree), False)

    def test_random_sayings(self):
        count = 0
        for saying in small_sayings(131, 150, most=40, names=("xx", "yy", "zz"), quantifiers=2):
            told, against = tree_for(saying), tree_against(saying)
            self.assertEqual((told is None, against is None), (not holds(saying), holds(saying)))
            tree = against if told is None else told
            self.assertIs(shows(closed(saying), tree, against is None, {}), True)
            self.assertIs(tree_for_holds(saying, tree), against is None)
            self.assertIs(tree_against_holds(saying, tree), told is None)
            count += len(str(tree)) > 100
        self.assertGreater(count, 20)

    def test_spoilt_trees(self):
        chance = random.Random(132)
        for saying in small_sayings(133, 100, most=12, names=("xx", "yy"), quantifiers=2):
            is_true = holds(saying)
            tree = tree_for(saying) if is_true else tree_against(saying)
            check, other = (tree_for_holds, tree_against_holds) if is_true else (tree_against_holds, tree_for_holds)
            values = spoilt(tree)
            for value in chance.sample(values, min(len(values), 30)):
                self.assertIs(check(saying, value), False)
                self.assertIs(other(saying, value), False)

    def test_rows_told_by_fails(self):
        for saying in small_sayings(134, 100, most=40, names=("xx", "yy")):
            rows = fails(saying)
            if rows:
                put = saying
                for name, row in rows:
                    put = put.put(name, Term.of_row(row))
                tree = tree_against(put)
                for name, row in reversed(rows):
                    tree = ("row", row, tree)
                self.assertIs(tree_against_holds(saying, tree), True)

    def test_great_trees(self):
        text = "odds(row + row) is even"
        for _ in range(5):
            text = f"for all row ( odds(row + row) is even and {text} )"
        saying = said(text)
        self.assertIs(tree_for_holds(saying, tree_for(saying)), True)
        saying = said("not " * 740 + "odds(row + row) is even")
        self.assertIs(tree_for_holds(saying, ("lot", LOT, ((), ()))), True)


if __name__ == "__main__":
    unittest.main()
