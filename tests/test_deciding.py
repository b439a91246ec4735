"""[39], [40], [41]: deciding sayings."""

import random
import unittest

from allrows.changes import Change
from allrows.deciding import agree, fails, holds, sight_of, true_at, truth
from allrows.errors import NoRow
from allrows.houses import House
from allrows.readers import Reader
from allrows.sayings import Saying
from allrows.sights import Sight
from support import END, HOME, ODD, SWAP, Checks, any_values, is_small, random_saying, rows_of_names, rows_to, small_sayings, tried

HALF = Change("ab", ["ab", ""])


def said(text):
    return Saying.parse(HOME, text)


def parts_of(saying, name):
    """All (reader's name, text of the change, is_back, change) with which a name stands free, from the definition."""
    form = saying.form
    if form[0] in ("is", "same"):
        told = []
        for reader, term in [form[1:3]] + ([form[3:5]] if form[0] == "same" else []):
            for part in term.parts:
                if part[0] == "name" and part[1] == name:
                    told.append((reader, "" if part[3] is None else str(part[3]), part[2], part[3]))
        return told
    if form[0] in ("all", "some"):
        return [] if form[1] == name else parts_of(form[2], name)
    return [part for inner in form[1:] for part in parts_of(inner, name)]


class TrueAtTest(Checks, unittest.TestCase):
    def test_told_rows(self):
        for text, rows, told in (("odds(row) is even", {"row": "abba"}, True), ("odds(row) is even", {"row": "abb", "two": "a"}, False),
                                 ("odds('a') is odd", {}, True), ("ends(row + back two) is yes", {"row": "b", "two": "ab"}, True),
                                 ("ends(row + [b,a](two)) is yes", {"row": "b", "two": "ab"}, True),
                                 ("for all two odds(row + two + two) is even", {"row": "aa"}, True),
                                 ("for some row odds(row) is odd", {"row": ""}, True),
                                 ("( odds(row) is odd and for all row odds(row + row) is even )", {"row": "a"}, True)):
            self.assertIs(true_at(said(text), rows), told)
        self.assertIs(true_at(rows={"row": "a" * 60}, saying=said("odds(row) is even")), True)

    def test_random_sayings(self):
        for saying in small_sayings(121, 150, most=100):
            for rows in rows_of_names(saying):
                self.assertIs(true_at(saying, rows), tried(saying, rows))

    def test_rows_that_lack(self):
        saying = said("( odds(two) is even or odds(one + three) is odd )")
        self.check_error(NoRow, lambda: true_at(saying, {}), name="one")
        self.check_error(NoRow, lambda: true_at(saying, {"one": "a", "two": "a"}), name="three")
        self.check_error(NoRow, lambda: true_at(saying, {"one": "a", "three": ""}), name="two")
        for value in any_values() + ["abc", "A"]:
            if not (isinstance(value, str) and all(sign in "ab" for sign in value)):
                self.check_error(NoRow, lambda: true_at(saying, {"one": "a", "two": value, "three": "b"}), name="two")
        # only free names need rows
        self.assertIs(true_at(said("for all row odds(row + row) is even"), {}), True)


class HoldsTest(Checks, unittest.TestCase):
    def test_told_sayings(self):
        for text, rows in (("odds(row + row) is even", None), ("odds(row) is odds(back row)", None), ("odds(one + two) is odds(one)", (("one", ""), ("two", "a"))),
                           ("odds(row) is odd", (("row", ""),)), ("odds(row) is even", (("row", "a"),)), ("odds('a') is even", ()), ("odds('a') is odd", None),
                           ("for all one for some two odds(one + two) is even", None), ("for some two for all one odds(one + two) is even", ()),
                           ("( if ends(row) is yes then odds(row) is odd )", (("row", "aa"),)), ("not ends(two + one) is yes", (("one", ""), ("two", "a"))),
                           ("( not ends(two) is yes or not ends(one) is yes )", (("one", "a"), ("two", "a"))),
                           ("( ends(one) is no or odds(two) is even )", (("one", "a"), ("two", "a"))),
                           ("( if odds(one) is odd then odds(two) is odd )", (("one", "a"), ("two", ""))),
                           # as many signs in all: the least tuple of rows, not the least row for the first name alone
                           ("( odds(one) is even and odds(two) is even )", (("one", ""), ("two", "a"))),
                           ("( odds(one + two) is even or ends(two) is yes )", (("one", "a"), ("two", ""))),
                           ("for all other odds(row) is even", (("row", "a"),))):
            self.check_same(fails(said(text)), rows)
            self.assertIs(holds(said(text)), rows is None)
        self.assertIs(holds(saying=said("odds('') is even")), True)
        self.assertIsNone(fails(saying=said("odds('') is even")))

    def test_fewest_signs_go_ahead(self):
        three = Reader("ab", ["aa", "bb", "cc", "dd"], "aa", [["bb", "dd"], ["cc", "dd"], ["dd", "dd"], ["dd", "dd"]])
        house = House("ab", [("three", three)])
        saying = Saying.parse(house, "not ( three(one) is dd and not three(two) is dd )")
        self.check_same(fails(saying), (("one", "b"), ("two", "")))
        saying = Saying.parse(house, "not ( three(one) is cc or three(two) is bb )")
        self.check_same(fails(saying), (("one", ""), ("two", "a")))
        saying = Saying.parse(house, "not ( three(one) is cc or ( three(two) is bb and three(one) is bb ) )")
        self.check_same(fails(saying), (("one", "a"), ("two", "a")))

    def test_random_sayings(self):
        count = 0
        for saying in small_sayings(122, 300, most=100, names=("xx", "yy", "zz")):
            failing = [tuple(rows.items()) for rows in rows_of_names(saying, 0) if not tried(saying, rows)]
            told = min(failing, key=lambda rows: (sum(len(row) for _, row in rows), tuple(row for _, row in rows)), default=None)
            self.check_same(fails(saying), told)
            self.assertIs(holds(saying), told is None)
            count += told is None
        self.assertGreater(count, 10)

    def test_two_quantifiers(self):
        for saying in small_sayings(123, 150, most=60, deep=4, quantifiers=3):
            failing = [rows for rows in rows_of_names(saying, 0) if not tried(saying, rows)]
            self.assertIs(holds(saying), not failing)

    def test_great_sayings(self):
        four = Reader("ab", ["aa", "bb", "cc", "dd"], "aa", [["bb", "aa"], ["cc", "bb"], ["dd", "cc"], ["aa", "dd"]])
        house = House("ab", [("four", four), ("ends", END)])
        text = "( if four(xx + yy) is four(zz) then four(back zz + 'a') is four(yy + 'a' + xx) )"
        self.assertIs(holds(Saying.parse(house, f"for all xx for all yy for all zz ( {text} and ends(xx + yy + 'a' + back zz + 'a') is yes )")), True)
        self.assertIs(holds(Saying.parse(house, "for all xx for all yy for some zz ( four(xx + yy + zz) is aa and ends(zz) is ends(xx) )")), True)
        self.assertIs(holds(Saying.parse(house, "for all xx for some zz for all yy ( four(xx + yy + zz) is aa and ends(zz) is ends(xx) )")), False)
        places = "four(xx) is bb"
        for number in range(23):
            places = f"( {'if' if number % 3 == 0 else ''} {places} {('then', 'or', 'and')[number % 3]} four(yy + zz + '{'a' * (number % 5)}') is cc )".replace("(  ", "( ")
        saying = Saying.parse(house, places)
        told = dict(fails(saying))
        self.assertFalse(tried(saying, told))

    def test_bound_within_itself(self):
        text = "odds(row) is even"
        for _ in range(5):
            text = f"for all row ( odds(row + row) is even or {text} )"
        self.assertIs(holds(said(text)), True)
        self.assertIs(holds(said(f"( odds(row) is odd or {text} )")), True)
        self.check_same(fails(said(f"( odds(row) is odd and {text} )")), (("row", ""),))

    def test_many_nots(self):
        self.assertIs(holds(said("not " * 740 + "odds(row + row) is even")), True)
        self.check_same(fails(said("not " * 741 + "odds(row) is even")), (("row", ""),))


class AgreeTest(Checks, unittest.TestCase):
    def test_told_sayings(self):
        for one, other, told in (("odds(row) is even", "not odds(row) is odd", True), ("odds(row) is even", "odds(back row + two + two) is even", True),
                                 ("odds(row) is even", "odds(two) is even", False), ("odds(row + row) is even", "ends(two + 'a') is yes", True),
                                 ("odds(row) is even", "ends(row) is no", False), ("odds('a') is even", "odds(row + row) is odd", True)):
            self.assertIs(agree(said(one), said(other)), told)
            self.assertIs(agree(other=said(one), one=said(other)), told)

    def test_random_sayings(self):
        chance = random.Random(124)
        for one in small_sayings(125, 60, most=20):
            other = random_saying(chance, one.house, ("xx", "yy"), 1, 0)
            both = Saying(one.house, ("and", one, other))
            if not is_small(both, 60):
                continue
            told = all(tried(one, rows) == tried(other, rows) for rows in rows_of_names(both, 0))
            self.assertIs(agree(one, other), told)
            self.assertIs(agree(one, one), True)
            self.assertIs(agree(one, one.negated()), False)


class SightTest(Checks, unittest.TestCase):
    def test_parts(self):
        saying = said("( odds(back row + row + [ab,](row)) is even and ( ends(row + two) is odds([b,a](row) + back [b,a](row)) or odds(row) is odd ) )")
        told = sight_of(saying, "row")
        self.assertEqual(told, Sight("ab", [(END, None, False), (ODD, None, False), (ODD, None, True), (ODD, HALF, False), (ODD, SWAP, False), (ODD, SWAP, True)]))
        self.check_same([part[2] for part in told.parts], [False, False, True, False, False, True])
        self.assertEqual(sight_of(name="two", saying=saying).parts, ((END, None, False),))
        self.assertIsNone(sight_of(saying, "other"))
        self.assertIsNone(sight_of(said("for all row odds(row) is even"), "row"))
        self.assertEqual(sight_of(said("( ends(row) is yes and for all row odds(row) is even )"), "row").parts, ((END, None, False),))

    def test_equal_readers_of_unlike_names(self):
        copy = Reader("ab", ["even", "odd"], "even", [["odd", "even"], ["even", "odd"]])
        house = House("ab", [("zz", ODD), ("aa", copy), ("ends", END)])
        saying = Saying.parse(house, "( zz(row) is aa(back row) and ( ends(row) is yes or aa(row) is zz(back row) ) )")
        self.assertEqual(sight_of(saying, "row").parts, ((ODD, None, False), (ODD, None, True), (END, None, False)))
        self.check_same(fails(saying), (("row", ""),) if not tried(saying, {"row": ""}) else None)
        self.assertIs(holds(Saying.parse(house, "zz(row) is aa(back row)")), True)

    def test_rows_that_look_like_names(self):
        house = House("x", [("turns", Reader("x", ["aa", "bb"], "aa", [["bb"], ["aa"]]))])
        saying = Saying.parse(house, "turns('xx' + back xx + 'xx') is aa")
        self.assertEqual(sight_of(saying, "xx").parts, ((house.reader_of("turns"), None, True),))
        self.check_same(fails(saying), (("xx", "x"),))
        self.assertIsNone(sight_of(Saying.parse(house, "turns('xx' + yy) is aa"), "xx"))

    def test_random_sayings(self):
        for saying in small_sayings(126, 100, quantifiers=2):
            for name in ("xx", "yy", "zz"):
                parts = sorted({part[:3]: part[3] for part in parts_of(saying, name)}.items(), key=lambda pair: pair[0])
                told = []
                for (reader, _, is_back), change in parts:
                    part = (saying.house.reader_of(reader), change, is_back)
                    if part not in told:
                        told.append(part)
                sight = sight_of(saying, name)
                if name in saying.names:
                    self.assertEqual(sight, Sight(saying.house.signs, told))
                else:
                    self.assertIsNone(sight)

    def test_truth(self):
        for saying in small_sayings(127, 60):
            sights = {name: sight_of(saying, name) for name in saying.names}
            wider = {name: Sight(sight.signs, ((saying.house.reader_of("one"), None, True),) + sight.parts[::-1]) for name, sight in sights.items()}
            for rows in rows_of_names(saying, 0):
                points = {name: sight.point_of(rows[name]) for name, sight in sights.items()}
                self.assertIs(truth(saying, sights, points), tried(saying, rows))
                points = {name: sight.point_of(rows[name]) for name, sight in wider.items()}
                self.assertIs(truth(saying=saying, sights={**wider, "other": None}, points={**points, "other": ()}), tried(saying, rows))

    def test_truth_at_points_that_no_row_has(self):
        saying = said("( odds(row) is odd and not odds('a' + row) is even )")
        sights = {"row": sight_of(saying, "row")}
        self.assertIs(truth(saying, sights, {"row": (("odd", "odd"),)}), True)
        self.assertIs(truth(saying, sights, {"row": (("odd", "even"),)}), False)
        self.assertIs(truth(said("for all row odds(row + row) is even"), {}, {}), True)
        self.assertIs(truth(said("for all row odds(row + row) is even"), {"row": None}, {"row": ()}), True)

    def test_points_tell_all(self):
        # rows with one point are heard alike
        for saying in small_sayings(128, 40, names=("xx",)):
            if saying.names:
                sight = sight_of(saying, "xx")
                told = {}
                for row in rows_to(saying.house.signs, 4):
                    self.assertIs(told.setdefault(sight.point_of(row), tried(saying, {"xx": row})), tried(saying, {"xx": row}))


if __name__ == "__main__":
    unittest.main()
