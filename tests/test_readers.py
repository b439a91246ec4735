"""[12], [13]: readers."""

import random
import unittest

from allrows.errors import InvalidReader, InvalidRow, InvalidText, NoMark
from allrows.readers import Reader, reached
from support import EVEN, LAST, NAMES_THAT_ARE_NONE, ONE_MARK, ONE_SIGN, Checks, any_values, least, readers_with_lots, rows_to

GOOD = ("ab", ["aa", "bb"], "aa", [["aa", "bb"], ["bb", "aa"]])
TEXT = "reader ab\nfirst aa\naa: aa bb\nbb: bb aa"


def is_row(value, signs):
    return isinstance(value, str) and all(sign in signs for sign in value)


class ReaderTest(Checks, unittest.TestCase):
    def test_attributes(self):
        marks, steps = ["aa", "bb"], [["aa", "bb"], ["bb", "aa"]]
        reader = Reader("ab", marks, "bb", steps)
        marks[0], steps[0][0] = "zz", "zz"
        steps.append([])
        self.check_same(reader.signs, "ab")
        self.check_same(reader.marks, ("aa", "bb"))
        self.check_same(reader.first, "bb")
        self.check_same(reader.steps, (("aa", "bb"), ("bb", "aa")))
        self.assertEqual(reader, Reader(steps=(("aa", "bb"), ["bb", "aa"]), first="bb", marks=("aa", "bb"), signs="ab"))

    def test_wrong_signs(self):
        for value in any_values() + ["aa", "ba", "abcd", "acb", "a1", "A"]:
            if value not in ("a", "b", "ab", "or", "abc"):
                self.check_error(InvalidReader, lambda: Reader(value, None, None, None), word="signs")

    def test_wrong_marks(self):
        for value in any_values() + [["aa", "aa"], ["aa", "b"], ["aa", "or"], ["aa", None], "aabb", {"aa": 1}]:
            good = isinstance(value, (list, tuple)) and value in (["aa"], ("aa",))
            self.assertFalse(good)
            self.check_error(InvalidReader, lambda: Reader("ab", value, None, None), word="marks")
        for name in NAMES_THAT_ARE_NONE:
            self.check_error(InvalidReader, lambda: Reader("ab", ["aa", name], "aa", [["aa"] * 2] * 2), word="marks")

    def test_wrong_first(self):
        for value in any_values() + ["cc", ["aa"]]:
            if value != "aa":
                self.check_error(InvalidReader, lambda: Reader("ab", ["aa", "bb"], value, None), word="first")

    def test_wrong_steps(self):
        row = ["aa", "bb"]
        wrong = [[row], [row, row, row], [row, ["aa"]], [row, ["aa", "bb", "aa"]], [row, ["aa", "cc"]], [row, "aabb"], [row, "ab"], "ab",
                 [row, None], [row, ["aa", None]], [row, ["aa", ["aa"]]], [row, ["aa", True]], {"aa": row, "bb": row}, []]
        for value in any_values() + wrong:
            self.check_error(InvalidReader, lambda: Reader("ab", ["aa", "bb"], "aa", value), word="steps")
        self.check_error(InvalidReader, lambda: Reader("ab", ["aa"], "aa", ["aa"]), word="steps")

    def test_led(self):
        self.assertEqual([LAST.led(mark, "ab") for mark in LAST.marks], ["so", "so", "so"])
        self.assertEqual([LAST.led(mark, "") for mark in LAST.marks], ["no", "yes", "so"])
        self.assertEqual((LAST.led(mark="so", row="b"), LAST.read(row="bb"), LAST.read("")), ("no", "no", "no"))
        self.assertEqual(EVEN.read("ab" * 30), "ev")
        self.assertEqual(EVEN.read("a" + "ab" * 30 * 40), "od")
        self.assertEqual(ONE_MARK.read("abba"), "it")
        self.assertEqual(ONE_SIGN.read("x" * 60), "cc")

    def test_no_mark(self):
        for value in any_values() + ["cc", ["ev"]]:
            self.check_error(NoMark, lambda: EVEN.led(value, "a"), mark=value)
            self.check_error(NoMark, lambda: EVEN.led(value, None), mark=value)

    def test_no_row(self):
        for value in any_values() + ["abA", "a b", ["a"], ("a", "b"), "a\n"]:
            if is_row(value, "ab"):
                EVEN.read(value)
            else:
                self.check_error(InvalidRow, lambda: EVEN.led("ev", value))
                self.check_error(InvalidRow, lambda: EVEN.read(value))

    def test_equal(self):
        self.assertTrue(Reader(*GOOD) == Reader("ab", ("aa", "bb"), "aa", (("aa", "bb"), ("bb", "aa"))))
        for other in (("ac", *GOOD[1:]), (*GOOD[:2], "bb", GOOD[3]), ("ab", ["bb", "aa"], *GOOD[2:]),
                      (*GOOD[:3], [["aa", "bb"], ["bb", "bb"]])):
            self.assertFalse(Reader(*GOOD) == Reader(*other))
        for value in any_values():
            self.assertFalse(Reader(*GOOD) == value)
        with self.assertRaises(TypeError):
            iter(EVEN)

    def test_reached(self):
        for reader, _ in readers_with_lots(11, 200):
            found = {}
            for row in rows_to(reader.signs, 4):
                found.setdefault(reader.read(row), row)
            self.check_same(reached(reader), tuple((mark, found[mark]) for mark in reader.marks if mark in found))
        lone = Reader("ab", ["aa", "bb"], "bb", [["aa", "aa"], ["bb", "bb"]])
        self.check_same(reached(reader=lone), (("bb", ""),))


class TextTest(Checks, unittest.TestCase):
    def test_text(self):
        self.assertEqual(str(Reader(*GOOD)), TEXT)
        self.assertEqual(str(ONE_SIGN), "reader x\nfirst aa\naa: bb\nbb: cc\ncc: bb")

    def test_round(self):
        for reader, _ in readers_with_lots(12, 200):
            self.assertEqual(Reader.parse(str(reader)), reader)
        self.assertEqual(Reader.parse(text=TEXT), Reader(*GOOD))
        self.assertEqual(Reader.parse("reader a\nfirst reader\nfirst: reader\nreader: first").marks, ("first", "reader"))

    def test_no_text(self):
        for value in any_values():
            self.check_error(InvalidText, lambda: Reader.parse(value), at=0)

    def test_wrong_lines(self):
        lines = TEXT.split("\n")
        wrong = ["", " ", "reader", "reader ", "first", "first ", "reader  ab", "reader a b", " reader ab", "aa:", "aa: ", "aa:aa bb", "aa : aa bb",
                 "aa: aa  bb", "aa: aa bb ", " aa: aa bb", "aa: aa or", "or: aa aa", "aa: a aa", "aa: AA aa", "aa bb", "aa: aa, bb", "aa; aa bb",
                 "aa: aa: bb", "add aa: 1 2 end 0"]
        for at in range(4):
            for line in wrong:
                if (at == 0 and line.startswith("reader x")) or (at == 1 and line == "first xx"):
                    continue
                text = "\n".join(lines[:at] + [line] + lines[at + 1:])
                self.check_error(InvalidText, lambda: Reader.parse(text), at=at)
                self.check_error(InvalidText, lambda: Reader.parse(text + "\n?"), at=at)

    def test_lines_at_wrong_places(self):
        self.check_error(InvalidText, lambda: Reader.parse("first aa\nreader ab\naa: aa aa"), at=0)
        self.check_error(InvalidText, lambda: Reader.parse("reader ab\nreader ab\nfirst aa\naa: aa aa"), at=1)
        self.check_error(InvalidText, lambda: Reader.parse("reader ab\nfirst aa\nfirst aa\naa: aa aa"), at=2)
        self.check_error(InvalidText, lambda: Reader.parse("reader ab\naa: aa aa\nfirst aa"), at=1)
        self.check_error(InvalidText, lambda: Reader.parse(TEXT + "\nreader ab"), at=4)
        self.check_error(InvalidText, lambda: Reader.parse(TEXT + "\n"), at=4)
        self.check_error(InvalidText, lambda: Reader.parse("\n" + TEXT), at=0)

    def test_missing_lines(self):
        self.check_error(InvalidText, lambda: Reader.parse(""), at=0)
        self.check_error(InvalidText, lambda: Reader.parse("reader ab"), at=1)
        self.check_error(InvalidText, lambda: Reader.parse("reader ab\nfirst aa"), at=2)

    def test_errors_of_the_reader(self):
        self.check_error(InvalidReader, lambda: Reader.parse(TEXT.replace("reader ab", "reader a?b")), word="signs")
        self.check_error(InvalidReader, lambda: Reader.parse(TEXT.replace("reader ab", "reader ba")), word="signs")
        self.check_error(InvalidReader, lambda: Reader.parse(TEXT + "\naa: aa aa"), word="marks")
        self.check_error(InvalidReader, lambda: Reader.parse(TEXT.replace("first aa", "first Aa.1")), word="first")
        self.check_error(InvalidReader, lambda: Reader.parse(TEXT.replace("first aa", "first cc")), word="first")
        self.check_error(InvalidReader, lambda: Reader.parse(TEXT.replace("bb: bb aa", "bb: bb cc")), word="steps")
        self.check_error(InvalidReader, lambda: Reader.parse(TEXT.replace("bb: bb aa", "bb: bb")), word="steps")
        self.check_error(InvalidReader, lambda: Reader.parse(TEXT.replace("reader ab", "reader abc")), word="steps")
        self.check_error(InvalidReader, lambda: Reader.parse(TEXT.replace("reader ab", "reader 1") + "\naa: aa aa"), word="signs")


if __name__ == "__main__":
    unittest.main()
