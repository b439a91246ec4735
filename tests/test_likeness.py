"""[14], [15], [16], [17] (and [18]): what readers have in common."""

import random
import unittest
from itertools import product

from allrows.errors import InvalidLot, InvalidWord, Mismatch, NoMark
from allrows.likeness import (apart, backward, classes, combined, is_same, match, match_holds, merged, paired,
                              parting)
from allrows.naming import mark_names
from allrows.readers import Reader, reached
from support import (END, EVEN, LAST, LOOSE_END, ONE_MARK, ONE_SIGN, Checks, any_values, least, random_lot, random_reader,
                     readers_with_lots, rows_to)

# 4 marks: pairs of them are parted by rows of fewer than 6 signs, pairs of two readers by fewer than 8
LENGTHS = {"a": 16, "ab": 8, "abc": 6}


def into(reader, lot, row):
    return reader.read(row) in lot


def pairs_of_readers(seed, many):
    chance = random.Random(seed)
    for _ in range(many):
        signs = chance.choice(("a", "ab", "abc"))
        one, other = random_reader(chance, signs), random_reader(chance, signs)
        yield one, random_lot(chance, one), other, random_lot(chance, other)


def alike_pairs(seed, many):
    """Readers with their lots beside merged ones, or turned about twice: they are the same."""
    for reader, lot in readers_with_lots(seed, many):
        yield (reader, lot, *merged(reader, lot))
        yield (reader, lot, *backward(*backward(reader, lot)))


class LotsTest(Checks, unittest.TestCase):
    def test_no_lots(self):
        calls = [lambda lot: parting(EVEN, lot, None, None), lambda lot: classes(EVEN, lot), lambda lot: merged(EVEN, lot),
                 lambda lot: is_same(EVEN, lot, ONE_SIGN, None), lambda lot: is_same(ONE_SIGN, ["aa"], EVEN, lot),
                 lambda lot: apart(EVEN, lot, ONE_SIGN, None), lambda lot: apart(ONE_SIGN, [], EVEN, lot),
                 lambda lot: match(EVEN, lot, ONE_SIGN, None), lambda lot: match(ONE_SIGN, (), EVEN, lot),
                 lambda lot: match_holds(EVEN, lot, ONE_SIGN, None, None), lambda lot: match_holds(ONE_SIGN, [], EVEN, lot, None),
                 lambda lot: combined("one", EVEN, lot, ONE_SIGN, None), lambda lot: combined("one", ONE_SIGN, [], EVEN, lot),
                 lambda lot: backward(EVEN, lot)]
        wrong = ["ev", ["no"], ["ev", "ev"], ("ev", "od", "ev"), ["ev", None], {"ev": 1}, [["ev"]], ("ev", True)]
        for call in calls:
            for value in any_values() + wrong:
                if value != [] and value != ():
                    self.check_error(InvalidLot, lambda: call(value))

    def test_lots_of_all_kinds(self):
        for lot in ([], (), ["od", "ev"], ("od", "ev")):
            self.assertIsNone(parting(EVEN, lot, "ev", "od"))
            self.check_same(classes(EVEN, lot), (("ev", "od"),))

    def test_later_changes_and_arguments(self):
        lot = ["yes"]
        merged(LAST, lot), backward(LAST, lot), combined("one", LAST, lot, LAST, lot)
        self.assertEqual(lot, ["yes"])


class OneReaderTest(Checks, unittest.TestCase):
    def test_parting(self):
        for reader, lot in readers_with_lots(21, 150):
            rows = rows_to(reader.signs, 4)
            for one, other in product(reader.marks, repeat=2):
                parted = [row for row in rows if (reader.led(one, row) in lot) != (reader.led(other, row) in lot)]
                self.assertEqual(parting(reader, lot, one, other), least(parted))

    def test_parting_told(self):
        self.assertEqual(parting(EVEN, ["od"], "ev", "od"), "")
        self.assertEqual(parting(LOOSE_END, ["dd"], "aa", "bb"), None)
        self.assertIsNone(parting(reader=LAST, lot=["yes"], one="so", other="so"))

    def test_parting_of_no_marks(self):
        for value in any_values():
            self.check_error(NoMark, lambda: parting(EVEN, ["ev"], value, 7), mark=value)
            self.check_error(NoMark, lambda: parting(EVEN, ["ev"], "ev", value), mark=value)
            self.check_error(InvalidLot, lambda: parting(EVEN, ["xx"], value, value))

    def test_classes(self):
        for reader, lot in readers_with_lots(22, 150):
            told = classes(reader, lot)
            self.assertEqual(sorted(mark for one in told for mark in one), sorted(reader.marks))
            numbers = [[reader.marks.index(mark) for mark in one] for one in told]
            self.assertTrue(all(one == sorted(one) for one in numbers))
            self.assertEqual(numbers, sorted(numbers))
            for one, other in product(reader.marks, repeat=2):
                together = any(one in marks and other in marks for marks in told)
                self.assertEqual(together, parting(reader, lot, one, other) is None)
        self.check_same(classes(reader=ONE_MARK, lot=["it"]), (("it",),))
        self.check_same(classes(LAST, ["so"]), (("no", "yes"), ("so",)))
        self.check_same(classes(LOOSE_END, ("cc", "dd")), (("aa",), ("bb",), ("cc",), ("dd",)))

    def test_merged(self):
        for reader, lot in readers_with_lots(23, 150):
            least_one, least_lot = merged(reader, lot)
            for row in rows_to(reader.signs, 4):
                self.assertEqual(into(reader, lot, row), into(least_one, least_lot, row))
            self.assertTrue(all(len(marks) == 1 for marks in classes(least_one, least_lot)))
            self.check_names(least_one)
            self.check_lot(least_one, least_lot)
            self.assertEqual(merged(least_one, least_lot), (least_one, least_lot))
            alive = {mark for mark, _ in reached(reader)}
            self.assertEqual(len(least_one.marks), len([one for one in classes(reader, lot) if alive & set(one)]))

    def check_names(self, reader):
        """Named by the least rows that lead to them."""
        ways = dict(reached(reader))
        self.assertEqual(len(ways), len(reader.marks))
        self.assertEqual(sorted(reader.marks, key=lambda mark: (len(ways[mark]), ways[mark])), list(reader.marks))
        self.assertEqual(list(reader.marks), mark_names(len(reader.marks)))
        self.assertEqual(reader.first, "ma")

    def check_lot(self, reader, lot):
        self.check_same(lot, tuple(mark for mark in reader.marks if mark in lot))

    def test_merged_told(self):
        self.assertEqual(merged(EVEN, []), (Reader("ab", ["ma"], "ma", [["ma", "ma"]]), ()))
        self.assertEqual(merged(reader=EVEN, lot=["od", "ev"]), (Reader("ab", ["ma"], "ma", [["ma", "ma"]]), ("ma",)))
        # dd leads to aa, but nothing leads to dd
        self.assertEqual(merged(LOOSE_END, ["bb", "dd"])[0], Reader("ab", ["ma", "mb", "mc"], "ma", [["mb", "mc"], ["mb", "mb"], ["mc", "mc"]]))

    def test_backward(self):
        for reader, lot in readers_with_lots(24, 150):
            turned, turned_lot = backward(reader, lot)
            for row in rows_to(reader.signs, 5):
                self.assertEqual(into(turned, turned_lot, row), into(reader, lot, row[::-1]))
            self.check_names(turned)
            self.check_lot(turned, turned_lot)

    def test_backward_marks_stand_for_lots(self):
        for reader, lot in readers_with_lots(25, 60):
            turned = backward(reader=reader, lot=lot)[0]
            lots = {tuple(reader.led(mark, row[::-1]) in lot for mark in reader.marks) for row in rows_to(reader.signs, 7 if len(reader.signs) < 3 else 6)}
            self.assertLessEqual(len(lots), len(turned.marks))
            self.assertEqual(len(turned.marks), len(lots))
        turned, lot = backward(LAST, [])
        self.assertEqual((turned.marks, lot), (("ma",), ()))

    def test_mark_names(self):
        names = mark_names(400)
        self.assertEqual((names[:2], names[25:28], names[-1].__class__), (["ma", "mb"], ["mz", "na", "nb"], str))
        self.assertNotIn("or", names)
        self.assertEqual(names[names.index("oq") + 1], "os")
        self.assertEqual(names.index("zz"), 14 * 26 - 2)
        self.assertEqual(len(set(names)), 400)
        self.assertNotIn("not", mark_names(2000))


class TwoReadersTest(Checks, unittest.TestCase):
    def test_apart(self):
        for one, lot, other, others in pairs_of_readers(31, 200):
            rows = rows_to(one.signs, LENGTHS[one.signs])
            found = least([row for row in rows if into(one, lot, row) != into(other, others, row)])
            self.assertEqual(apart(one, lot, other, others), found)
            self.assertIs(is_same(one, lot, other, others), found is None)
            self.assertEqual(merged(one, lot) == merged(other, others), found is None)
        self.assertEqual(apart(one=EVEN, lot=["od"], other=END, others=["yes"]), "aa")

    def test_alike(self):
        for one, lot, other, others in alike_pairs(32, 60):
            self.assertIs(is_same(one, lot, other, others), True)
            self.assertIsNone(apart(one, lot, other, others))
            self.assertEqual(merged(one, lot), merged(other, others))

    def test_empty_lots(self):
        self.assertIs(is_same(one=EVEN, lot=[], other=LAST, others=()), True)
        self.assertEqual(apart(EVEN, [], LAST, ["no"]), "")
        self.assertEqual(apart(EVEN, [], LAST, ["so"]), "b")
        self.assertIs(match_holds(EVEN, [], ONE_MARK, [], (("ev", "it"), ("od", "it"))), True)

    def test_match(self):
        some, none = 0, 0
        for one, lot, other, others in list(pairs_of_readers(33, 150)) + list(alike_pairs(34, 50)):
            value = match(one, lot, other, others)
            self.assertEqual(value is None, apart(one, lot, other, others) is not None)
            if value is None:
                none += 1
            else:
                some += 1
                self.assertIs(match_holds(one, lot, other, others, value), True)
                self.assertTrue(self.holds_by_definition(one, lot, other, others, value))
        self.assertTrue(some > 50 and none > 50)

    def holds_by_definition(self, one, lot, other, others, pairs):
        if len(set(pairs)) != len(pairs) or (one.first, other.first) not in pairs:
            return False
        for mark, other_mark in pairs:
            if (mark in lot) != (other_mark in others):
                return False
            if any((one.led(mark, sign), other.led(other_mark, sign)) not in pairs for sign in one.signs):
                return False
        return True

    def test_match_holds_for_all_lots_of_pairs(self):
        other = Reader("ab", ["yes", "no"], "no", [["yes", "no"], ["yes", "no"]])
        pairs = list(product(LAST.marks, other.marks))
        for flags in product((False, True), repeat=len(pairs)):
            value = tuple(pair for pair, flag in zip(pairs, flags) if flag)
            for others in (["yes"], ["no"], []):
                told = self.holds_by_definition(LAST, ["yes"], other, others, value)
                self.assertIs(match_holds(LAST, ["yes"], other, others, value), told)

    def test_spoilt_matches(self):
        good = (("no", "no"), ("yes", "yes"), ("so", "no"))
        self.assertIs(match_holds(LAST, ["yes"], END, ["yes"], good), True)
        self.assertIs(match_holds(LAST, ["yes"], END, ["yes"], value=good[::-1]), True)
        for spoilt in (good[:2], good[1:], (), good + good[:1], list(good), tuple(list(pair) for pair in good), good + (("yes", "no"),),
                       good + (("so", "yes"),), good + (("so",),), good + (("so", "no", "no"),), good + (None,), good + (("no", "od"),),
                       good + ((True, "no"),), good + (((), "no"),), good + (("so", ["no"]),), "good"):
            self.assertIs(match_holds(LAST, ["yes"], END, ["yes"], spoilt), False)
        self.assertIs(match_holds(LAST, ["so"], END, ["yes"], good), False)
        for value in any_values():
            self.assertIs(match_holds(LAST, ["yes"], END, ["yes"], value), False)
            self.assertIs(match_holds(LAST, ["yes"], END, ["yes"], good + (value,)), False)
            self.assertIs(match_holds(LAST, ["yes"], END, ["yes"], good + ((value, "no"),)), False)
            self.assertIs(match_holds(LAST, ["yes"], END, ["yes"], good + (("no", value),)), False)

    def test_mismatch(self):
        other = Reader("abc", ["aa"], "aa", [["aa"] * 3])
        for call in (lambda: is_same(EVEN, [], other, []), lambda: apart(EVEN, [], other, []), lambda: match(EVEN, [], other, []),
                     lambda: match_holds(EVEN, [], other, [], None), lambda: paired(EVEN, other),
                     lambda: combined("both", EVEN, [], other, [])):
            self.check_error(Mismatch, call)

    def test_paired(self):
        for one, _, other, _ in pairs_of_readers(35, 100):
            reader, pairs = paired(one, other)
            self.assertEqual(len(reader.marks), len(pairs))
            self.assertEqual(len(set(pairs)), len(pairs))
            self.check_same(pairs, tuple(tuple(pair) for pair in pairs))
            for row in rows_to(one.signs, 4):
                self.assertEqual(pairs[reader.marks.index(reader.read(row))], (one.read(row), other.read(row)))
            self.assertEqual(list(reader.marks), mark_names(len(pairs)))
            ways = dict(reached(reader))
            self.assertEqual(sorted(reader.marks, key=lambda mark: (len(ways[mark]), ways[mark])), list(reader.marks))
        self.check_same(paired(one=ONE_MARK, other=ONE_MARK), (Reader("ab", ["ma"], "ma", [["ma", "ma"]]), (("it", "it"),)))

    def test_combined(self):
        told = {"both": lambda one, other: one and other, "either": lambda one, other: one or other,
                "first": lambda one, other: one and not other, "one": lambda one, other: one != other}
        for one, lot, other, others in pairs_of_readers(36, 100):
            for word, is_in in told.items():
                reader, chosen = combined(word, one, lot, other, others)
                self.assertEqual(reader, paired(one, other)[0])
                self.check_same(chosen, tuple(mark for mark in reader.marks if mark in chosen))
                for row in rows_to(one.signs, 4):
                    self.assertEqual(into(reader, chosen, row), is_in(into(one, lot, row), into(other, others, row)))
        self.assertEqual(combined(word="one", one=EVEN, lot=["ev"], other=EVEN, others=["ev"])[1], ())

    def test_combined_words(self):
        for value in any_values() + ["Both", "first ", "ones", ["both"], ("both",), "other"]:
            self.check_error(InvalidWord, lambda: combined(value, EVEN, None, ONE_SIGN, None))

    def test_great_readers(self):
        """What the package returned is passed on."""
        clock = Reader("ab", ["aa", "bb", "cc"], "aa", [["bb", "aa"], ["cc", "bb"], ["aa", "cc"]])
        ring = Reader("ab", ["aa", "bb", "cc", "dd"], "aa", [["aa", "bb"], ["bb", "cc"], ["cc", "dd"], ["dd", "aa"]])
        reader, lot = combined("one", clock, ["aa"], ring, ["aa", "cc"])
        self.assertEqual(len(reader.marks), 12)
        both, lots = combined("either", reader, lot, LAST, ["yes"])
        self.assertEqual(len(both.marks), 36)
        turned, turned_lot = backward(both, lots)
        for row in rows_to("ab", 8):
            self.assertEqual(into(turned, turned_lot, row), into(both, lots, row[::-1]))
        self.assertIs(is_same(*backward(turned, turned_lot), both, lots), True)


if __name__ == "__main__":
    unittest.main()
