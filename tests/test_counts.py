"""[32]: counts."""

import random
import unittest

from allrows.counts import Count
from allrows.errors import InvalidCount, InvalidReader, InvalidRow, InvalidText, NoMark
from allrows.readers import Reader
from support import EVEN, LAST, ONE_MARK, ONE_SIGN, Checks, any_values, random_reader, rows_to

COUNT = Count(EVEN, [[1, 0], [-2, 5]], [3, -7])
TEXT = f"{EVEN}\nadd ev: 1 0 end 3\nadd od: -2 5 end -7"


def random_count(chance, signs="ab"):
    reader = random_reader(chance, signs)
    adds = [[chance.randint(-9, 9) for _ in signs] for _ in reader.marks]
    return Count(reader, adds, [chance.randint(-99, 99) for _ in reader.marks])


class CountTest(Checks, unittest.TestCase):
    def test_attributes(self):
        adds, ends = [[1, 0], [0, 1]], [0, 2]
        count = Count(EVEN, adds, ends)
        adds[0][0], ends[0] = 9, 9
        adds.append([])
        self.assertIs(count.reader, EVEN)
        self.check_same(count.adds, ((1, 0), (0, 1)))
        self.check_same(count.ends, (0, 2))
        self.assertEqual(Count(ends=(0, 2), adds=((1, 0), [0, 1]), reader=EVEN), count)

    def test_wrong_reader(self):
        for value in any_values() + [str(EVEN)]:
            if not isinstance(value, Reader):
                self.check_error(InvalidCount, lambda: Count(value, None, None), word="reader")

    def test_wrong_adds(self):
        row = [0, 1]
        wrong = [[row], [row, row, row], [row, [0]], [row, [0, 1, 2]], [row, [0, True]], [row, [None, 0]], [row, "01"], [row, ["0", 1]],
                 [row, [[0], 1]], "ab", [], [row, {0: 1, 1: 2}]]
        for value in any_values() + wrong:
            self.check_error(InvalidCount, lambda: Count(EVEN, value, None), word="adds")

    def test_wrong_ends(self):
        for value in any_values() + [[0], [0, 1, 2], [0, True], [False, 0], [0, None], ["0", "1"], "01", [0, [1]]]:
            if isinstance(value, list) and value == [1, 2]:
                continue
            self.check_error(InvalidCount, lambda: Count(EVEN, [[0, 1], [1, 0]], value), word="ends")

    def test_led_and_of(self):
        chance = random.Random(91)
        for _ in range(60):
            count = random_count(chance)
            for row in rows_to("ab", 4):
                for mark in count.reader.marks:
                    at, amount = mark, 0
                    for sign in row:
                        amount += count.adds[count.reader.marks.index(at)]["ab".index(sign)]
                        at = count.reader.led(at, sign)
                    self.check_same(count.led(mark, row), (at, amount))
                last, amount = count.led(count.reader.first, row)
                self.check_same(count.of(row), amount + count.ends[count.reader.marks.index(last)])
        self.check_same(COUNT.led(mark="od", row="abb"), ("ev", -2))
        self.assertEqual((COUNT.of(""), COUNT.of("a"), COUNT.of(row="ab"), COUNT.of("aba")), (3, -6, -1, 1 + 5 - 2 + 3))
        self.check_same(COUNT.led("od", ""), ("od", 0))
        self.assertEqual(Count(ONE_SIGN, [[1], [10], [100]], [0, 5, 7]).of("x" * 60), 1 + 30 * 10 + 29 * 100 + 7)

    def test_errors_as_of_the_reader(self):
        for value in any_values() + ["no"]:
            self.check_error(NoMark, lambda: COUNT.led(value, None), mark=value)
        for value in any_values() + ["abc"]:
            if not (isinstance(value, str) and all(sign in "ab" for sign in value)):
                self.check_error(InvalidRow, lambda: COUNT.led("ev", value))
                self.check_error(InvalidRow, lambda: COUNT.of(value))

    def test_equal(self):
        self.assertTrue(COUNT == Count(EVEN, ((1, 0), (-2, 5)), (3, -7)))
        self.assertFalse(COUNT == Count(EVEN, ((1, 0), (-2, 4)), (3, -7)))
        self.assertFalse(COUNT == Count(EVEN, ((1, 0), (-2, 5)), (3, 7)))
        self.assertFalse(COUNT == Count(Reader("ab", EVEN.marks, "od", EVEN.steps), ((1, 0), (-2, 5)), (3, -7)))
        for value in any_values() + [EVEN]:
            self.assertFalse(COUNT == value)
        with self.assertRaises(TypeError):
            iter(COUNT)


class TextTest(Checks, unittest.TestCase):
    def test_text(self):
        self.assertEqual(str(COUNT), TEXT)
        self.assertEqual(str(Count(ONE_MARK, [[0, 0]], [0])), "reader ab\nfirst it\nit: it it\nadd it: 0 0 end 0")

    def test_round(self):
        chance = random.Random(92)
        for _ in range(100):
            count = random_count(chance, chance.choice(("a", "ab", "abc")))
            self.assertEqual(Count.parse(str(count)), count)
        self.assertEqual(Count.parse(text=TEXT), COUNT)
        count = Count.parse("reader x\nfirst add\nadd: end\nend: add\nadd add: 123456789 end -123456789\nadd end: -1 end 0")
        self.check_same((count.adds, count.ends), (((123456789,), (-1,)), (-123456789, 0)))

    def test_no_text(self):
        for value in any_values():
            self.check_error(InvalidText, lambda: Count.parse(value), at=0)

    def test_wrong_lines(self):
        lines = TEXT.split("\n")
        wrong = ["", "add", "add ", "add ev", "add ev:", "add ev: ", "add ev: end 3", "add ev: 1 0", "add ev: 1 0 end", "add ev: 1 0 end ",
                 "add ev: 1 0 end 3 4", "add ev:1 0 end 3", "add ev: 1  0 end 3", "add ev : 1 0 end 3", " add ev: 1 0 end 3", "add ev: 1 0 end 3 ",
                 "add ev: 1 0 3", "add ev: 01 0 end 3", "add ev: +1 0 end 3", "add ev: 1 -0 end 3", "add ev: 1 0 end -0", "add ev: 1 0 end 03",
                 "add ev: 1 0 end --3", "add ev: 1 0 end -", "add ev: 1 x end 3", "add ev: 1 0 end x", "add ev: 1.5 0 end 3", "add ev: 1 0 end 1e3",
                 "add ev: 1234567890 0 end 3", "add ev: 1 0 end -1234567890", "add ev: 00 0 end 3", "add ev: 1 end 0 end 3", "add xx: 1 0 end 3",
                 "add or: 1 0 end 3", "add a: 1 0 end 3", "ADD ev: 1 0 end 3", "add: ev: 1 0 end 3", "add ev: - 0 end 3", "add ev: \xb2 0 end 3",
                 "add ev: 1_0 0 end 3", "add ev: 1 0 END 3", "add ev: 1 0 end: 3"]
        for at in range(5):
            for line in wrong + ["reader"]:
                text = "\n".join(lines[:at] + [line] + lines[at + 1:])
                self.check_error(InvalidText, lambda: Count.parse(text), at=at)
                self.check_error(InvalidText, lambda: Count.parse(text + "\n?"), at=at)
        for line in wrong:
            self.check_error(InvalidText, lambda: Count.parse("\n".join(lines[:5] + [line.replace(" ev", " od")])), at=5)

    def test_lines_at_wrong_places(self):
        lines = TEXT.split("\n")
        for order, at in (([0, 1, 2, 3, 5, 4], 4), ([0, 1, 2, 4, 3, 5], 4), ([0, 1, 4, 2, 3, 5], 2), ([0, 1, 4], 2), ([0, 1, 2, 3, 4, 4], 5),
                          ([0, 1, 2, 3, 4, 5, 5], 6), ([0, 1, 2, 3, 4, 5, 2], 6), ([0, 1, 2, 3, 4, 2, 5], 5), ([4, 5], 0), ([1, 0, 2, 3, 4, 5], 0)):
            self.check_error(InvalidText, lambda: Count.parse("\n".join([lines[number] for number in order])), at=at)
        self.check_error(InvalidText, lambda: Count.parse(TEXT + "\n"), at=6)

    def test_missing_lines(self):
        lines = TEXT.split("\n")
        self.check_error(InvalidText, lambda: Count.parse(""), at=0)
        for many in range(1, 6):
            self.check_error(InvalidText, lambda: Count.parse("\n".join(lines[:many])), at=many)

    def test_errors_of_the_reader(self):
        self.check_error(InvalidReader, lambda: Count.parse(TEXT.replace("reader ab", "reader ba")), word="signs")
        self.check_error(InvalidReader, lambda: Count.parse("reader ab\nfirst ev\nev: ev ev\nev: ev ev\nadd ev: 1 1 end 0\nadd ev: 1 1 end 0"), word="marks")
        self.check_error(InvalidReader, lambda: Count.parse(TEXT.replace("first ev", "first no")), word="first")
        self.check_error(InvalidReader, lambda: Count.parse(TEXT.replace("od: ev od", "od: ev no")), word="steps")
        # the errors of the reader stand ahead of those of the count
        self.check_error(InvalidReader, lambda: Count.parse(TEXT.replace("first ev", "first no").replace("1 0 end", "1 end")), word="first")

    def test_errors_of_the_count(self):
        self.check_error(InvalidCount, lambda: Count.parse(TEXT.replace("1 0 end", "1 end")), word="adds")
        self.check_error(InvalidCount, lambda: Count.parse(TEXT.replace("-2 5 end", "-2 5 0 end")), word="adds")


class StepsTest(unittest.TestCase):
    def test_adds_along_a_row(self):
        count = Count(LAST, [[1, 2], [3, 4], [5, 6]], [0, 0, 0])
        self.assertEqual(count.of("abba"), 1 + 4 + 6 + 1)


if __name__ == "__main__":
    unittest.main()
