"""[34], [35]: houses."""

import random
import unittest

from allrows.counts import Count
from allrows.errors import InvalidCount, InvalidHouse, InvalidReader, InvalidText, NoName
from allrows.houses import House
from allrows.readers import Reader
from allrows.terms import Term
from support import END, EVEN, HOME, LAST, NAMES_THAT_ARE_NONE, ODD, ONE_SIGN, Checks, any_values, random_count, random_reader

FLAT = Reader("ab", ["go"], "go", [["go", "go"]])
SIZE = Count(FLAT, [[1, 1]], [0])
PEAK = Count(END, [[0, 0], [0, 1]], [0, -5])
FULL = House("ab", [("odds", ODD), ("ends", END)], [("size", SIZE), ("peak", PEAK)])
TEXT = """house ab
reader odds
  reader ab
  first even
  even: odd even
  odd: even odd
reader ends
  reader ab
  first no
  no: yes no
  yes: yes no
count size
  reader ab
  first go
  go: go go
  add go: 1 1 end 0
count peak
  reader ab
  first no
  no: yes no
  yes: yes no
  add no: 0 0 end 0
  add yes: 0 1 end -5"""


class HouseTest(Checks, unittest.TestCase):
    def test_attributes(self):
        readers, counts = [("odds", ODD), ("ends", END)], [("size", SIZE)]
        house = House("ab", readers, counts)
        readers.pop()
        counts.append(("peak", PEAK))
        self.check_same(house.signs, "ab")
        self.check_same(house.readers, (("odds", ODD), ("ends", END)))
        self.check_same(house.counts, (("size", SIZE),))
        self.check_same(house.names, ("odds", "ends", "size"))
        self.check_same(House("x", ()).counts, ())
        self.check_same(House("x", []).names, ())
        self.check_same(House(counts=(("size", SIZE),), readers=[], signs="ab").names, ("size",))

    def test_without_readers(self):
        house = House("ab", [], [("size", SIZE)])
        self.check_same(house.readers, ())
        self.assertEqual(House.parse(str(house)), house)
        self.assertEqual(House.parse("house abc"), House("abc", []))

    def test_wrong_signs(self):
        for value in any_values() + ["ba", "aa", "abcd", "A", "a b"]:
            if value not in ("a", "b", "ab", "abc", "or"):
                self.check_error(InvalidHouse, lambda: House(value, None, None), word="signs")

    def test_wrong_readers(self):
        good = ("odds", ODD)
        for value in any_values():
            if not (isinstance(value, (list, tuple)) and len(value) == 0):
                self.check_error(InvalidHouse, lambda: House("ab", value, None), word="readers")
            self.check_error(InvalidHouse, lambda: House("ab", [good, value], None), word="readers")
            if value not in ("ab", "ba", "abc", "aa", "xx"):
                self.check_error(InvalidHouse, lambda: House("ab", [good, (value, ODD)], None), word="readers")
            if not (isinstance(value, Reader) and value.signs == "ab"):
                self.check_error(InvalidHouse, lambda: House("ab", [good, ("some", value)], None), word="readers")
                self.check_error(InvalidHouse, lambda: House("ab", [good, ("ends", value)], None), word="readers")
        for name in NAMES_THAT_ARE_NONE:
            self.check_error(InvalidHouse, lambda: House("ab", [(name, ODD)], None), word="readers")
        for readers in ([good, good], [good, ("odds", END)], [("xx", ONE_SIGN)], [["odds", ODD]], [("odds", ODD, 0)], [("odds",)], good, {"odds": ODD},
                        [("size", SIZE)]):
            self.check_error(InvalidHouse, lambda: House("ab", readers), word="readers")
        self.check_error(InvalidHouse, lambda: House("abc", [good], [("odds", SIZE)]), word="readers")

    def test_wrong_counts(self):
        good = ("size", SIZE)
        for value in any_values():
            if not (isinstance(value, (list, tuple)) and len(value) == 0):
                self.check_error(InvalidHouse, lambda: House("ab", [("odds", ODD)], value), word="counts")
            self.check_error(InvalidHouse, lambda: House("ab", [("odds", ODD)], [good, value]), word="counts")
            if not (isinstance(value, Count) and value.reader.signs == "ab"):
                self.check_error(InvalidHouse, lambda: House("ab", [], [good, ("peak", value)]), word="counts")
        for name in NAMES_THAT_ARE_NONE:
            self.check_error(InvalidHouse, lambda: House("ab", [], [(name, SIZE)]), word="counts")
        for counts in ([good, good], [good, ("size", PEAK)], [("odds", SIZE)], [["size", SIZE]], [("ends", END)], [("size", SIZE, 0)], good):
            self.check_error(InvalidHouse, lambda: House("ab", [("odds", ODD)], counts), word="counts")
        self.check_error(InvalidHouse, lambda: House("x", [], [("size", SIZE)]), word="counts")

    def test_told_things(self):
        self.assertIs(FULL.reader_of("ends"), END)
        self.assertIs(FULL.reader_of(name="odds"), ODD)
        self.assertIs(FULL.count_of("peak"), PEAK)
        self.assertIs(FULL.count_of(name="size"), SIZE)
        for value in any_values() + ["Odds", "od", "odds "]:
            self.check_error(NoName, lambda: FULL.reader_of(value), name=value)
            self.check_error(NoName, lambda: FULL.count_of(value), name=value)
            self.check_error(NoName, lambda: FULL.without(value), name=value)
        # names of the other kind
        self.check_error(NoName, lambda: FULL.reader_of("size"), name="size")
        self.check_error(NoName, lambda: FULL.count_of("odds"), name="odds")

    def test_having(self):
        self.check_same(FULL.having("odds", LAST).readers, (("odds", LAST), ("ends", END)))
        self.check_same(FULL.having("last", LAST).names, ("odds", "ends", "last", "size", "peak"))
        self.check_same(FULL.having("peak", SIZE).counts, (("size", SIZE), ("peak", SIZE)))
        self.check_same(FULL.having(thing=PEAK, name="high").names, ("odds", "ends", "size", "peak", "high"))
        self.assertEqual(FULL.having("odds", ODD), FULL)
        self.assertEqual(FULL.names, ("odds", "ends", "size", "peak"))
        self.check_error(InvalidHouse, lambda: FULL.having("odds", ONE_SIGN), word="readers")
        self.check_error(InvalidHouse, lambda: FULL.having("xx", ONE_SIGN), word="readers")
        self.check_error(InvalidHouse, lambda: FULL.having("size", ODD), word="readers")
        self.check_error(InvalidHouse, lambda: FULL.having("xx", Count(ONE_SIGN, [[1], [1], [1]], [0, 0, 0])), word="counts")
        self.check_error(InvalidHouse, lambda: FULL.having("odds", SIZE), word="counts")

    def test_without(self):
        self.assertEqual(FULL.without("odds"), House("ab", [("ends", END)], FULL.counts))
        self.assertEqual(FULL.without(name="size"), House("ab", FULL.readers, [("peak", PEAK)]))
        self.assertEqual(FULL.without("odds").without("ends").without("peak").names, ("size",))

    def test_equal(self):
        self.assertTrue(HOME == House("ab", (("odds", ODD), ("ends", END)), []))
        for other in (House("ab", [("ends", END), ("odds", ODD)]), House("ab", [("odds", ODD)]), FULL, House("ab", [("odds", ODD), ("ends", ODD)]),
                      House("ab", [("odds", ODD), ("last", END)])):
            self.assertFalse(HOME == other)
        self.assertFalse(House("a", []) == House("b", []))
        for value in any_values():
            self.assertEqual(HOME == value, isinstance(value, House))
        with self.assertRaises(TypeError):
            iter(HOME)

    def test_term(self):
        self.assertEqual(HOME.term("row + 'ab'"), Term.of_name("row") + Term.of_row("ab"))
        self.check_error(InvalidText, lambda: HOME.term("row + 'x'"), at=1)
        self.check_error(InvalidText, lambda: HOME.term(text=3), at=0)


class TextTest(Checks, unittest.TestCase):
    def test_text(self):
        self.assertEqual(str(FULL), TEXT)
        self.assertEqual(str(House("abc", [])), "house abc")
        self.assertEqual(House.parse(TEXT), FULL)
        self.assertEqual(House.parse(text=str(HOME)), HOME)

    def test_round(self):
        chance = random.Random(101)
        for _ in range(80):
            signs = chance.choice(("a", "ab", "abc", "xz"))
            readers = [(name, random_reader(chance, signs)) for name in ("reader", "count", "house")[:chance.randint(0, 3)]]
            counts = [(name, random_count(chance, signs, 4)) for name in ("add", "first", "end")[:chance.randint(0, 3)]]
            house = House(signs, readers, counts)
            self.assertEqual(House.parse(str(house)), house)

    def test_no_text(self):
        for value in any_values():
            self.check_error(InvalidText, lambda: House.parse(value), at=0)
        for line in ("", "house", "house ", "house  ab", "house ab ", " house ab", "House ab", "house a b", "reader ab", "houses ab", "house: ab"):
            self.check_error(InvalidText, lambda: House.parse(TEXT.replace("house ab", line)), at=0)
            self.check_error(InvalidText, lambda: House.parse(line), at=0)

    def test_wrong_lines(self):
        lines = TEXT.split("\n")
        wrong = ["", "?", " ", "  ", "   first no", "  first", "  first no no", "reader", "reader x", "reader or", "reader odds x", "reader  odds", " reader odds",
                 "Reader odds", "count", "count x", "count ", "count is", "house ab", "  house ab", "first no", "no: yes no", "\tfirst no", "  no:yes no",
                 "  no: yes  no", "  a: a a", "  add no: 0 0", "  add no: 0 end", "  add no: 0 0 end 00", "add no: 0 0 end 0", "  reader", "  reader a b"]
        for at in range(1, len(lines)):
            for line in wrong:
                text = "\n".join(lines[:at] + [line] + lines[at + 1:])
                self.check_error(InvalidText, lambda: House.parse(text), at=at)
                self.check_error(InvalidText, lambda: House.parse(text + "\n?"), at=at)
        self.check_error(InvalidText, lambda: House.parse(TEXT + "\n"), at=len(lines))
        self.check_error(InvalidText, lambda: House.parse("house ab\n"), at=1)

    def test_names_of_blocks(self):
        for name in NAMES_THAT_ARE_NONE:
            self.check_error(InvalidText, lambda: House.parse(TEXT.replace("reader ends", "reader " + name)), at=6)
            self.check_error(InvalidText, lambda: House.parse(TEXT.replace("count peak", "count " + name)), at=16)

    def test_lines_that_lack(self):
        lines = TEXT.split("\n")
        for many in range(1, len(lines)):
            text = "\n".join(lines[:many])
            if many in (1, 6, 11, 16):
                self.assertEqual(str(House.parse(text)), text)
            elif many in (5, 10):
                # a reader without one of its marks has a text, but is none
                self.check_error(InvalidReader, lambda: House.parse(text), word="steps")
            else:
                self.check_error(InvalidText, lambda: House.parse(text), at=many)

    def test_lines_left_out_twice_and_exchanged(self):
        lines = TEXT.split("\n")
        for at, wrong in ((2, 2), (3, 3), (7, 7), (8, 8), (12, 12), (13, 13), (14, 14), (15, 15), (21, 21), (22, 22)):
            text = "\n".join(lines[:at] + lines[at + 1:])
            self.check_error(InvalidText, lambda: House.parse(text), at=wrong)
        for at, wrong in ((0, 1), (1, 2), (2, 3), (3, 4), (11, 12), (12, 13), (13, 14), (15, 16), (21, 22), (22, 23)):
            text = "\n".join(lines[:at + 1] + lines[at:])
            self.check_error(InvalidText, lambda: House.parse(text), at=wrong)
        self.check_error(InvalidText, lambda: House.parse("\n".join(lines[:1] + lines[11:16] + lines[1:11])), at=6)
        self.check_error(InvalidText, lambda: House.parse("\n".join(lines[:21] + [lines[22], lines[21]])), at=21)

    def test_errors_behind_the_lines(self):
        two = TEXT.replace("first even", "first no", 1)
        self.check_error(InvalidReader, lambda: House.parse(two), word="first")
        # a wrong line at the end stands ahead of what its readers are
        self.check_error(InvalidText, lambda: House.parse(two + "\n?"), at=23)
        # in order: readers and counts, then the house
        self.check_error(InvalidReader, lambda: House.parse(two.replace("odd: even odd", "odd: even ev")), word="first")
        self.check_error(InvalidReader, lambda: House.parse(TEXT.replace("go: go go", "go: go", 1).replace("odd: even odd", "odd: even ev")), word="steps")
        self.check_error(InvalidCount, lambda: House.parse(TEXT.replace("add go: 1 1 end", "add go: 1 end")), word="adds")
        self.check_error(InvalidCount, lambda: House.parse(TEXT.replace("house ab", "house ba").replace("add go: 1 1 end", "add go: 1 end")), word="adds")
        self.check_error(InvalidReader, lambda: House.parse(TEXT.replace("house ab", "house ba").replace("  reader ab", "  reader ba")), word="signs")

    def test_errors_of_the_house(self):
        self.check_error(InvalidHouse, lambda: House.parse(TEXT.replace("house ab", "house ba")), word="signs")
        self.check_error(InvalidHouse, lambda: House.parse(TEXT.replace("house ab", "house bc")), word="readers")
        self.check_error(InvalidHouse, lambda: House.parse(TEXT.replace("reader ends", "reader odds")), word="readers")
        self.check_error(InvalidHouse, lambda: House.parse(TEXT.replace("count peak", "count size")), word="counts")
        self.check_error(InvalidHouse, lambda: House.parse(TEXT.replace("count peak", "count odds")), word="counts")
        self.check_error(InvalidHouse, lambda: House.parse("house abc\n" + "\n".join(TEXT.split("\n")[11:])), word="counts")


if __name__ == "__main__":
    unittest.main()
