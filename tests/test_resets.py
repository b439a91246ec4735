"""[20] (and [21]): resets and lasting pairs."""

import random
import unittest
from itertools import combinations, product

from allrows.likeness import combined, paired
from allrows.readers import Reader
from allrows.resets import lasting, lasting_holds, reset
from support import END, EVEN, LAST, ONE_MARK, ONE_SIGN, Checks, any_values, least, random_reader, rows_to

# the reader of 4 marks whose least reset is longest: 9 signs
SLOW = Reader("ab", ["aa", "bb", "cc", "dd"], "aa", [["bb", "bb"], ["cc", "bb"], ["dd", "cc"], ["aa", "dd"]])


def holds_by_definition(reader, pairs):
    whole = set(pairs) | {(other, one) for one, other in pairs}
    if not pairs or len(whole) != 2 * len(pairs) or any(one == other for one, other in pairs):
        return False
    return all((reader.led(one, sign), reader.led(other, sign)) in whole for one, other in pairs for sign in reader.signs)


class ResetsTest(Checks, unittest.TestCase):
    def readers(self):
        chance = random.Random(51)
        for _ in range(200):
            yield random_reader(chance, chance.choice(("a", "ab")))

    def test_reset(self):
        for reader in self.readers():
            resets = [row for row in rows_to(reader.signs, 9) if len({reader.led(mark, row) for mark in reader.marks}) == 1]
            self.assertEqual(reset(reader), least(resets))

    def test_reset_told(self):
        self.assertEqual(reset(reader=ONE_MARK), "")
        self.assertEqual((reset(END), reset(EVEN), reset(ONE_SIGN)), ("a", None, None))
        self.assertEqual(reset(SLOW), "baaabaaab")
        self.assertEqual(reset(Reader("abc", ["aa", "bb"], "aa", [["bb", "bb", "bb"], ["aa", "bb", "bb"]])), "b")

    def test_lasting(self):
        told = 0
        for reader in self.readers():
            pairs = lasting(reader)
            self.assertEqual(pairs is None, reset(reader) is not None)
            if pairs is not None:
                told += 1
                self.check_same(lasting_holds(reader, pairs), True)
                self.assertTrue(holds_by_definition(reader, pairs))
        self.assertTrue(told > 30)
        self.assertIsNone(lasting(reader=ONE_MARK))

    def test_lasting_holds_for_all_lots_of_pairs(self):
        chance = random.Random(52)
        for reader in (EVEN, LAST, END, ONE_SIGN, random_reader(chance, "ab", 3), SWAPPED):
            pairs = list(product(reader.marks, repeat=2))
            for many in range(4):
                for value in combinations(pairs, many):
                    self.assertIs(lasting_holds(reader, value), holds_by_definition(reader, value))

    def test_spoilt_pairs(self):
        good = (("aa", "bb"), ("cc", "dd"))
        self.assertIs(lasting_holds(SWAPPED, good), True)
        self.assertIs(lasting_holds(reader=SWAPPED, value=(("bb", "aa"), ("cc", "dd"))), True)
        for spoilt in ((), good[:1], good[1:], list(good), (["aa", "bb"], ["cc", "dd"]), good + good[:1], good + (("bb", "aa"),),
                       good + (("aa", "aa"),), good + (("aa", "bb", "cc"),), good + (("aa",),), good + (None,), good + (("aa", "no"),),
                       good + (("aa", None),), good + ((["aa"], "bb"),), "aabb"):
            self.assertIs(lasting_holds(SWAPPED, spoilt), False)
        for value in any_values():
            self.assertIs(lasting_holds(EVEN, value), value.__class__ is tuple and value == (("ev", "od"),))
            self.assertIs(lasting_holds(SWAPPED, good + (value,)), False)
            self.assertIs(lasting_holds(SWAPPED, good + ((value, "aa"),)), False)
            self.assertIs(lasting_holds(SWAPPED, good + (("aa", value),)), False)

    def test_great_readers(self):
        reader, pairs = paired(SWAPPED, ONE_MARK)
        great = combined("one", reader, [], EVEN, [])[0]
        self.assertIs(lasting_holds(great, lasting(great)), True)
        self.assertIsNone(reset(great))


# a leads crosswise, b back to the same two pairs: these last, though aa and cc come to one mark
SWAPPED = Reader("ab", ["aa", "bb", "cc", "dd"], "aa", [["cc", "aa"], ["dd", "bb"], ["aa", "aa"], ["bb", "bb"]])


if __name__ == "__main__":
    unittest.main()
