"""[22], [23], [24], [25]: acts."""

import random
import unittest
from itertools import product

from allrows.acts import act, act_then, acts, first_act, homes, last_homes, undo_row
from allrows.readers import Reader
from allrows.resets import reset
from support import END, EVEN, LAST, ONE_MARK, ONE_SIGN, Checks, least, random_reader, rows_to


def readers(seed, many, most=3):
    chance = random.Random(seed)
    for _ in range(many):
        yield random_reader(chance, chance.choice(("a", "ab")), most)


def least_rows(reader):
    """Each act that rows have, with its least row: all rows are tried until no new act has come."""
    found, rows = {}, [""]
    while rows:
        fresh = []
        for row in rows:
            one = tuple(reader.led(mark, row) for mark in reader.marks)
            if one not in found:
                found[one] = row
                fresh.append(row)
        rows = sorted(row + sign for row in fresh for sign in reader.signs)
    return found


class ActsTest(Checks, unittest.TestCase):
    def test_act(self):
        for reader in readers(61, 40):
            for row in rows_to(reader.signs, 3):
                self.check_same(act(reader, row), tuple(reader.led(mark, row) for mark in reader.marks))
        self.check_same(act(reader=LAST, row="bb"), ("no", "no", "so"))

    def test_first_act(self):
        for reader in readers(62, 20):
            self.check_same(first_act(reader), act(reader, ""))
        self.check_same(first_act(reader=LAST), ("no", "yes", "so"))

    def test_act_then(self):
        for reader in readers(63, 40):
            for row in rows_to(reader.signs, 3):
                for more in rows_to(reader.signs, 2):
                    self.check_same(act_then(reader, act(reader, row), act(reader, more)), act(reader, row + more))

    def test_act_then_of_acts_that_no_row_has(self):
        self.check_same(act_then(reader=END, one=("yes", "no"), other=("yes", "yes")), ("yes", "yes"))
        for one, other in product(product(LAST.marks, repeat=3), repeat=2):
            self.assertEqual(act_then(LAST, one, other), tuple(other[LAST.marks.index(mark)] for mark in one))

    def test_acts(self):
        for reader in readers(64, 100, 4):
            found = least_rows(reader)
            self.check_same(acts(reader), tuple(sorted(found.items(), key=lambda pair: (len(pair[1]), pair[1]))))
        self.check_same(acts(ONE_MARK), ((("it",), ""),))
        self.check_same(acts(reader=ONE_SIGN), ((("aa", "bb", "cc"), ""), (("bb", "cc", "bb"), "x"), (("cc", "bb", "cc"), "xx")))

    def test_acts_are_in_the_order_of_rows(self):
        # as strings, "aa" would stand ahead of "b"
        reader = Reader("ab", ["aa", "bb", "cc"], "aa", [["bb", "bb"], ["cc", "aa"], ["aa", "cc"]])
        rows = [row for _, row in acts(reader)]
        self.assertEqual(rows, ["", "a", "b", "aa", "ab", "ba"])

    def test_all_acts(self):
        whole = Reader("abc", ["aa", "bb", "cc", "dd"], "aa",
                       [["bb", "bb", "bb"], ["cc", "aa", "bb"], ["dd", "cc", "cc"], ["aa", "dd", "dd"]])
        self.assertEqual(len(acts(whole)), 256)
        self.assertEqual({one for one, _ in acts(whole)}, set(product(whole.marks, repeat=4)))

    def test_undo_row(self):
        for reader in readers(65, 40):
            rows = sorted(least_rows(reader).values(), key=lambda row: (len(row), row))
            for one in product(reader.marks, repeat=len(reader.marks)):
                good = [row for row in rows if tuple(reader.led(mark, row) for mark in one) == reader.marks]
                self.assertEqual(undo_row(reader, one), least(good))

    def test_undo_row_exactly_if_each_mark_is_there_once(self):
        for reader in readers(66, 100, 4):
            for one, _ in acts(reader):
                self.assertEqual(undo_row(reader, one) is not None, len(set(one)) == len(one))

    def test_undo_row_told(self):
        self.assertEqual(undo_row(reader=EVEN, one=("ev", "od")), "")
        self.assertEqual(undo_row(EVEN, ("od", "ev")), "a")
        self.assertIsNone(undo_row(EVEN, ("od", "od")))
        # each mark is there once, but no row has this act, and none undoes it
        self.assertIsNone(undo_row(END, ("yes", "no")))
        self.assertEqual(undo_row(ONE_MARK, ("it",)), "")


class HomesTest(Checks, unittest.TestCase):
    def homes_by_definition(self, reader):
        found = [one for one, _ in acts(reader)]
        leads = {}
        for one in found:
            leads[one] = {act_then(reader, one, more) for more in found}
        told = []
        for one in found:
            home = tuple(other for other in found if other in leads[one] and one in leads[other])
            if home not in told:
                told.append(home)
        return tuple(told), tuple(home for home in told if all(leads[one] <= set(home) for one in home))

    def test_by_definition(self):
        for reader in readers(67, 120, 4):
            told, last = self.homes_by_definition(reader)
            self.check_same(homes(reader), told)
            self.check_same(last_homes(reader), last)

    def test_resets_show_in_last_homes(self):
        for reader in readers(68, 100, 4):
            is_one = all(len(set(one)) == 1 for home in last_homes(reader) for one in home)
            self.assertEqual(reset(reader) is not None, is_one)

    def test_told(self):
        self.check_same(homes(reader=EVEN), ((("ev", "od"), ("od", "ev")),))
        self.check_same(last_homes(reader=EVEN), homes(EVEN))
        self.check_same(homes(ONE_MARK), ((("it",),),))
        self.check_same(homes(ONE_SIGN), ((("aa", "bb", "cc"),), (("bb", "cc", "bb"), ("cc", "bb", "cc"))))
        self.check_same(last_homes(ONE_SIGN), ((("bb", "cc", "bb"), ("cc", "bb", "cc")),))
        apart = Reader("ab", ["aa", "bb", "cc"], "aa", [["bb", "cc"], ["bb", "bb"], ["cc", "cc"]])
        self.check_same(homes(apart), ((("aa", "bb", "cc"),), (("bb", "bb", "cc"),), (("cc", "bb", "cc"),)))
        self.check_same(last_homes(apart), ((("bb", "bb", "cc"),), (("cc", "bb", "cc"),)))


if __name__ == "__main__":
    unittest.main()
