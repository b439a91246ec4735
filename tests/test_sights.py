"""[26], [27], [28], [29], [30], [31]: sights."""

import random
import unittest

from allrows.acts import act, first_act
from allrows.changes import Change
from allrows.errors import InvalidSight
from allrows.readers import Reader
from allrows.sights import (Sight, lengths, lot_closed, many, rounds, row_with, seen, term_led, told_apart)
from allrows.terms import Term
from support import (END, EVEN, LAST, ONE_MARK, ONE_SIGN, SWAP, Checks, any_values, random_change, random_reader, random_term,
                     rows_to)

VOID = Change("ab", ["", ""])
BOTH = Sight("ab", [(EVEN, None, False), (END, None, True)])


def random_sight(chance, signs, most=3):
    parts = []
    for _ in range(chance.randint(1, most)):
        change = random_change(chance, signs) if chance.random() < 0.5 else None
        parts.append((random_reader(chance, signs, 3), change, chance.random() < 0.5))
    return Sight(signs, parts)


def sights(seed, number):
    chance = random.Random(seed)
    told = []
    while len(told) < number:
        sight = random_sight(chance, chance.choice(("a", "ab")))
        if len(sight.points()) <= 60:
            told.append(sight)
    return told


def part_row(part, row):
    _, change, is_back = part
    row = row if change is None else change.of(row)
    return row[::-1] if is_back else row


class SightTest(Checks, unittest.TestCase):
    def test_attributes(self):
        parts = [(EVEN, SWAP, True), (END, None, False)]
        sight = Sight("ab", parts)
        parts.append((EVEN, None, False))
        self.check_same(sight.signs, "ab")
        self.check_same(sight.parts, ((EVEN, SWAP, True), (END, None, False)))
        self.assertEqual(len(sight), 2)
        self.assertEqual(Sight(parts=((EVEN, None, False),), signs="ab").parts, ((EVEN, None, False),))
        # a plain change stays as it is
        plain = Change("ab", ["a", "b"])
        self.check_same(Sight("ab", [(EVEN, plain, False)]).parts, ((EVEN, plain, False),))

    def test_wrong_signs(self):
        for value in any_values() + ["aa", "ba", "abcd", "A"]:
            if value not in ("a", "b", "ab", "or", "abc"):
                self.check_error(InvalidSight, lambda: Sight(value, None), word="signs")

    def test_wrong_parts(self):
        good = (EVEN, None, False)
        for value in any_values():
            self.check_error(InvalidSight, lambda: Sight("ab", value), word="parts")
            is_good = value.__class__ is tuple and value == good
            if not is_good:
                self.check_error(InvalidSight, lambda: Sight("ab", [good, value]), word="parts")
        other = Reader("abc", ["aa"], "aa", [["aa"] * 3])
        for part in ((EVEN, None, 1), (EVEN, None, None), (EVEN, False, False), (EVEN, "[a,b]", False), (EVEN, Change("abc", ["", "", ""]), False),
                     (None, None, False), (other, None, False), (EVEN, None), (EVEN, None, False, False), [EVEN, None, False], (EVEN, END, False),
                     ("even", None, False), (SWAP, None, False)):
            self.check_error(InvalidSight, lambda: Sight("ab", [part]), word="parts")
            self.check_error(InvalidSight, lambda: Sight("ab", (good, part)), word="parts")
        self.check_error(InvalidSight, lambda: Sight("abc", [good]), word="parts")
        self.check_error(InvalidSight, lambda: Sight("ab", []), word="parts")
        self.check_error(InvalidSight, lambda: Sight("ab", good), word="parts")

    def test_equal(self):
        self.assertTrue(Sight("ab", [(EVEN, None, False)]) == Sight("ab", ((EVEN, None, False),)))
        for other in (Sight("ab", [(EVEN, None, True)]), Sight("ab", [(EVEN, SWAP, False)]), Sight("ab", [(END, None, False)]),
                      Sight("ab", [(EVEN, None, False)] * 2)):
            self.assertFalse(Sight("ab", [(EVEN, None, False)]) == other)
        for value in any_values():
            self.assertFalse(BOTH == value)
        with self.assertRaises(TypeError):
            iter(BOTH)

    def test_point_of(self):
        for sight in sights(71, 60):
            for row in rows_to(sight.signs, 4):
                self.check_same(sight.point_of(row), tuple(act(part[0], part_row(part, row)) for part in sight.parts))
        sight = Sight("ab", [(LAST, Change("ab", ["ab", "b"]), True)])
        self.check_same(sight.point_of(row="ab"), (act(LAST, "bba"),))

    def test_begin_step_and_put_behind(self):
        for sight in sights(72, 60):
            self.check_same(sight.begin(), sight.point_of(""))
            self.check_same(sight.begin(), tuple(first_act(part[0]) for part in sight.parts))
            for row in rows_to(sight.signs, 3):
                for sign in sight.signs:
                    self.check_same(sight.step(sight.point_of(row), sign), sight.point_of(row + sign))
                for more in rows_to(sight.signs, 3):
                    self.check_same(sight.put_behind(sight.point_of(row), sight.point_of(more)), sight.point_of(row + more))
        self.check_same(BOTH.step(point=BOTH.begin(), sign="a"), BOTH.point_of("a"))
        self.check_same(BOTH.put_behind(point=BOTH.point_of("a"), other=BOTH.point_of("b")), BOTH.point_of("ab"))

    def test_points_that_no_row_has_can_be_put_together(self):
        sight = Sight("ab", [(END, None, False), (END, None, True)])
        point = (("yes", "no"), ("yes", "no"))
        self.check_same(sight.step(point, "a"), (("yes", "yes"), ("no", "no")))
        self.check_same(sight.put_behind(point, (("no", "no"), ("no", "yes"))), (("no", "no"), ("yes", "no")))


class PointsTest(Checks, unittest.TestCase):
    def test_points(self):
        for sight in sights(73, 60):
            told = sight.points()
            found = {}
            for row in rows_to(sight.signs, 7 if len(told) < 30 else 9):
                found.setdefault(sight.point_of(row), row)
            for point, row in told:
                self.assertEqual(sight.point_of(row), point)
            for point, row in found.items():
                self.assertIn((point, row), told)
            keys = [(len(row), row) for _, row in told]
            self.assertEqual(keys, sorted(keys))
            self.assertEqual(len({point for point, _ in told}), len(told))
            self.check_same(told, tuple(tuple(pair) for pair in told))
            for point, _ in told:
                for sign in sight.signs:
                    self.assertIn(sight.step(point, sign), dict(told))

    def test_points_told(self):
        self.check_same(Sight("ab", [(ONE_MARK, None, False)]).points(), (((("it",),), ""),))
        self.check_same(Sight("ab", [(EVEN, VOID, True)]).points(), (((("ev", "od"),), ""),))
        self.assertEqual([row for _, row in Sight("ab", [(LAST, None, False)]).points()], ["", "a", "b", "ab", "bb", "abb"])

    def test_row_with(self):
        for sight in sights(74, 30):
            for point, row in sight.points():
                self.assertEqual(row_with(sight, point), row)
        self.assertEqual(row_with(sight=BOTH, point=BOTH.begin()), "")
        self.assertEqual(row_with(BOTH, (("od", "ev"), ("yes", "yes"))), "a")
        for point in ((("od", "ev"), ("no", "yes")), (("ev", "ev"), ("no", "no")), [("od", "ev"), ("yes", "yes")], (["od", "ev"], ["yes", "yes"]),
                      (("od", "ev"),), (("od", "ev"), ("yes", "yes"), ("yes", "yes")), (("od", "ev"), ("yes",)), (("od", "ev"), ("yes", None))):
            self.assertIsNone(row_with(BOTH, point))
        for value in any_values():
            self.assertIsNone(row_with(BOTH, value))
            self.assertIsNone(row_with(BOTH, (value, ("no", "no"))) if value != ("ev", "od") else None)

    def test_lot_closed(self):
        for sight in sights(75, 30):
            points = tuple(point for point, _ in sight.points())
            self.assertIs(lot_closed(sight, points), True)
            self.assertIs(lot_closed(sight, points[::-1] + points[:1]), True)
            self.assertIs(lot_closed(sight, list(points)), False)
            for at in range(len(points)):
                self.assertIs(lot_closed(sight, points[:at] + points[at + 1:]), False)

    def test_lot_closed_with_points_that_no_row_has(self):
        sight = Sight("ab", [(END, None, False)])
        points = tuple(point for point, _ in sight.points())
        self.assertIs(lot_closed(sight=sight, value=points + ((("yes", "no"),),)), True)
        wider = Sight("ab", [(EVEN, None, False)])
        points = tuple(point for point, _ in wider.points())
        self.assertIs(lot_closed(wider, points + ((("ev", "ev"),), (("od", "od"),))), True)
        self.assertIs(lot_closed(wider, points + ((("ev", "ev"),),)), False)
        self.assertIs(lot_closed(wider, ((("ev", "ev"),), (("od", "od"),))), False)

    def test_lot_closed_for_any_value(self):
        sight = Sight("ab", [(EVEN, None, False)])
        points = tuple(point for point, _ in sight.points())
        for value in any_values() + [("ev", "od"), (("ev",),), (("ev", "od", "ev"),), (("ev", "xx"),), (("ev", None),), (["ev", "od"],)]:
            self.assertIs(lot_closed(sight, value), False)
            if not (value.__class__ is tuple and value in (points[0], points[1])):
                self.assertIs(lot_closed(sight, points + (value,)), False)
        self.assertIs(lot_closed(sight, ()), False)


class LengthsTest(Checks, unittest.TestCase):
    def test_many(self):
        for sight in sights(76, 30):
            for length in range(5):
                rows = [row for row in rows_to(sight.signs, length) if len(row) == length]
                for point, _ in sight.points():
                    told = len([row for row in rows if sight.point_of(row) == point])
                    self.assertEqual(many(sight, point, length), told)
        self.assertEqual(many(sight=BOTH, point=BOTH.point_of("ab"), length=200), 2 ** 198)
        self.assertEqual(sum(many(BOTH, point, 200) for point, _ in BOTH.points()), 2 ** 200)
        self.assertEqual((many(BOTH, BOTH.begin(), 0), many(BOTH, BOTH.begin(), 1)), (1, 0))

    def test_great_sights(self):
        turning = Reader("abc", ["aa", "bb", "cc", "dd"], "aa",
                         [["bb", "bb", "bb"], ["cc", "aa", "bb"], ["dd", "cc", "cc"], ["aa", "dd", "dd"]])
        sight = Sight("abc", [(turning, None, False)])
        self.assertEqual(len(sight.points()), 256)
        ways = {sight.begin(): 1}
        for _ in range(200):
            longer = {}
            for point, number in ways.items():
                for sign in "abc":
                    following = sight.step(point, sign)
                    longer[following] = longer.get(following, 0) + number
            ways = longer
        self.assertEqual(sum(ways.values()), 3 ** 200)
        for row in ("", "a", "abcabc", "c" * 60):
            self.assertEqual(many(sight, sight.point_of(row), 200), ways.get(sight.point_of(row), 0))

    def test_points_that_no_row_has(self):
        point = (("od", "ev"), ("no", "yes"))
        self.assertEqual([many(BOTH, point, length) for length in (0, 1, 200)], [0, 0, 0])
        self.check_same(lengths(BOTH, point), ((), ()))

    def test_rounds_and_lengths(self):
        for sight in sights(77, 60):
            tail, ring = rounds(sight)
            lots = [{sight.begin()}]
            for _ in range(tail + 2 * ring + 2):
                lots.append({sight.step(point, sign) for point in lots[-1] for sign in sight.signs})
            firsts = [(one, other - one) for one in range(len(lots)) for other in range(one + 1, len(lots)) if lots[one] == lots[other]]
            self.check_same((tail, ring), min(firsts))
            for point, _ in sight.points():
                told = (tuple(length for length in range(tail) if point in lots[length]),
                        tuple(length for length in range(tail, tail + ring) if point in lots[length]))
                self.check_same(lengths(sight, point), told)

    def test_rounds_told(self):
        self.check_same(rounds(sight=Sight("ab", [(ONE_MARK, None, False)])), (0, 1))
        turning = Sight("x", [(ONE_SIGN, None, False)])
        self.check_same(rounds(turning), (1, 2))
        self.check_same(lengths(sight=turning, point=turning.point_of("xxxxx")), ((), (1,)))
        self.check_same(lengths(turning, turning.begin()), ((0,), ()))
        three = Reader("x", ["aa", "bb", "cc"], "aa", [["bb"], ["cc"], ["aa"]])
        two = Reader("x", ["aa", "bb"], "aa", [["bb"], ["aa"]])
        self.check_same(rounds(Sight("x", [(three, None, False), (two, None, True)])), (0, 6))


class TermsTest(Checks, unittest.TestCase):
    def askings(self, seed, number):
        chance = random.Random(seed)
        for _ in range(number):
            signs = chance.choice(("a", "ab", "abc"))
            readers = [random_reader(chance, signs, 3) for _ in range(2)]
            yield signs, [(chance.choice(readers), random_term(chance, signs)) for _ in range(chance.randint(1, 3))]

    def test_seen(self):
        for signs, askings in self.askings(81, 100):
            for name in ("xx", "yy", "zz"):
                parts = []
                for reader, term in askings:
                    for part in term.parts:
                        if part[0] == "name" and part[1] == name and (reader, part[3], part[2]) not in parts:
                            parts.append((reader, part[3], part[2]))
                told = seen(askings, name, signs)
                self.check_same(told, Sight(signs, parts if parts else [(askings[0][0], None, False)]))

    def test_seen_told(self):
        term = Term.parse("ab", "xx + back xx + [b,a](xx) + xx + yy")
        copy = Reader("ab", ["ev", "od"], "ev", [["od", "ev"], ["ev", "od"]])
        sight = seen(askings=((EVEN, term), (END, Term.of_name("xx")), (copy, term)), name="xx", signs="ab")
        self.assertEqual(sight.parts, ((EVEN, None, False), (EVEN, None, True), (EVEN, SWAP, False), (END, None, False)))
        self.assertEqual(seen([(END, Term.of_row("a")), (EVEN, term)], "zz", "ab").parts, ((END, None, False),))

    def test_rows_that_look_like_names(self):
        reader = Reader("x", ["aa", "bb"], "aa", [["bb"], ["aa"]])
        term = Term.parse("x", "'xx' + back yy")
        self.assertEqual(seen([(reader, term)], "xx", "x").parts, ((reader, None, False),))
        self.assertEqual(seen([(reader, term), (reader, Term.parse("x", "'xx' + back xx"))], "xx", "x").parts, ((reader, None, True),))

    def test_term_led(self):
        chance = random.Random(82)
        for signs, askings in self.askings(83, 100):
            told = {name: seen(askings, name, signs) for name in ("xx", "yy", "zz")}
            for _ in range(5):
                rows = {name: chance.choice(rows_to(signs, 4)) for name in told}
                points = {name: told[name].point_of(row) for name, row in rows.items()}
                for reader, term in askings:
                    for mark in reader.marks:
                        self.assertEqual(term_led(reader, mark, term, told, points), reader.led(mark, term.spelled(rows)))
        self.assertEqual(term_led(reader=END, mark="yes", term=Term([]), sights={}, points={}), "yes")
        self.assertEqual(term_led(LAST, "so", Term.of_row("b"), {}, {}), "no")

    def test_rows_of_one_point_can_be_exchanged(self):
        for signs, askings in self.askings(84, 60):
            sight = seen(askings, "xx", signs)
            rows = rows_to(signs, 3)
            for row in rows:
                least = dict(sight.points())[sight.point_of(row)]
                for reader, term in askings:
                    for other in rows[:5]:
                        self.assertEqual(reader.read(term.spelled({"xx": row, "yy": other})), reader.read(term.spelled({"xx": least, "yy": other})))

    def test_told_apart(self):
        for sight in sights(85, 40):
            rows = rows_to(sight.signs, 3)
            for row in rows:
                for other in rows:
                    told = None
                    for at, (one, two) in reversed(list(enumerate(zip(sight.point_of(row), sight.point_of(other))))):
                        marks = [mark for mark, to, to_other in zip(sight.parts[at][0].marks, one, two) if to != to_other]
                        told = (at, marks[0]) if marks else told
                    self.check_same(told_apart(sight, row, other), told)
        self.check_same(told_apart(sight=BOTH, row="ab", other="ba"), (1, "no"))
        self.assertIsNone(told_apart(BOTH, "", ""))
        self.check_same(told_apart(Sight("ab", [(LAST, None, False)]), "b", "bbb"), None)
        self.check_same(told_apart(Sight("ab", [(LAST, None, False)]), "", "bb"), (0, "yes"))


if __name__ == "__main__":
    unittest.main()
