"""[6], [7], [8]: changes."""

import random
import unittest
from itertools import product

from allrows.changes import Change, clash, clash_holds, is_clear, origin, origins, rests
from allrows.errors import InvalidChange, InvalidText
from support import Checks, any_values, least, random_change, rows_to


def is_row(value, signs):
    return isinstance(value, str) and all(sign in signs for sign in value)


def small_changes(signs, most):
    return [Change(signs, images) for images in product(rows_to(signs, most), repeat=len(signs))]


class ChangeTest(Checks, unittest.TestCase):
    def test_attributes(self):
        images = ["aa", ""]
        change = Change("ab", images)
        images.append("b")
        images[0] = "b"
        self.check_same(change.signs, "ab")
        self.check_same(change.rows, ("aa", ""))
        self.check_same(Change(rows=("c",), signs="c").rows, ("c",))

    def test_wrong_signs(self):
        for value in any_values() + ["aa", "ba", "abcd", "acb", "a1", "aB", "A", "a ", "abb"]:
            if value in ("a", "b", "ab", "or", "abc"):
                continue
            self.check_error(InvalidChange, lambda: Change(value, ["a", "b"]), word="signs")
            self.check_error(InvalidChange, lambda: Change(value, None), word="signs")

    def test_wrong_rows(self):
        for value in any_values() + [["a", "c"], ["a", True], ["a", None], ("a",), ["a", "b", "a"], {"a": "b"}, ["a", ["b"]]]:
            is_good = isinstance(value, (list, tuple)) and len(value) == 2 and all(is_row(row, "ab") for row in value)
            if is_good:
                self.assertEqual(Change("ab", value).rows, tuple(value))
            else:
                self.check_error(InvalidChange, lambda: Change("ab", value), word="rows")

    def test_of(self):
        change = Change("abc", ["ab", "", "cc"])
        self.assertEqual(change.of(""), "")
        self.assertEqual(change.of("abcba"), "ab" + "cc" + "ab")
        self.assertEqual(change.of(row="c" * 60), "c" * 120)

    def test_other_one_first(self):
        chance = random.Random(1)
        for _ in range(100):
            one, other = random_change(chance, "ab"), random_change(chance, "ab")
            for row in rows_to("ab", 3):
                self.assertEqual((one * other).of(row), one.of(other.of(row)))
        self.assertEqual((Change("ab", ["b", "aa"]) * Change("ab", ["ab", "b"])).rows, ("baa", "aa"))
        with self.assertRaises(TypeError):
            Change("ab", ["b", "a"]) * 2

    def test_turned(self):
        chance = random.Random(2)
        for _ in range(50):
            change = random_change(chance, "abc")
            for row in rows_to("abc", 3):
                self.assertEqual(change.turned().of(row[::-1]), change.of(row)[::-1])
        self.assertEqual(Change("ab", ["ab", "bba"]).turned().rows, ("ba", "abb"))

    def test_plain_and_void(self):
        self.assertIs(Change("ab", ["a", "b"]).is_plain, True)
        self.assertIs(Change("ab", ["b", "a"]).is_plain, False)
        self.assertIs(Change("ab", ["a", ""]).is_plain, False)
        self.assertIs(Change("ab", ["", ""]).is_void, True)
        self.assertIs(Change("ab", ["", "b"]).is_void, False)
        self.assertIs(Change("x", ["x"]).is_plain, True)
        self.assertIs(Change("x", ["x"]).is_void, False)

    def test_text(self):
        self.assertEqual(str(Change("abc", ["ab", "", "c"])), "[ab,,c]")
        self.assertEqual(str(Change("x", [""])), "[]")
        for change in small_changes("ab", 2) + [Change("abc", ["", "", "abc"]), Change("x", [""]), Change("x", ["xx"])]:
            self.assertEqual(Change.parse(change.signs, str(change)), change)
        self.assertEqual(Change.parse(text="[b,a]", signs="ab").rows, ("b", "a"))

    def test_wrong_texts(self):
        wrong = ["[a]", "[a,b", "a,b]", "[a,b,]", "[a, b]", "[a,c]", " [a,b]", "[a,b] ", "[A,b]", "[", "]", "[[a,b]]", "[a,b]\n",
                 "[]", "['a','b']"]
        for value in any_values() + wrong:
            self.check_error(InvalidText, lambda: Change.parse("ab", value), at=0)
        self.check_error(InvalidText, lambda: Change.parse("a", "[a,]"), at=0)

    def test_equal(self):
        self.assertTrue(Change("ab", ["a", ""]) == Change("ab", ("a", "")))
        self.assertFalse(Change("ab", ["a", ""]) == Change("ab", ("", "a")))
        self.assertFalse(Change("a", [""]) == Change("b", [""]))
        self.assertTrue(Change("a", [""]) != Change("b", [""]))
        for value in any_values():
            if not isinstance(value, Change):
                self.assertFalse(Change("ab", ["a", "b"]) == value)

    def test_not_iterable(self):
        with self.assertRaises(TypeError):
            iter(Change("ab", ["a", "b"]))


def rests_by_definition(change):
    """The least lot, found by trying all ends of images again and again."""
    if "" in change.rows:
        return None
    ends = {image[at:] for image in change.rows for at in range(len(image) + 1)}
    found = set()
    for one, image in enumerate(change.rows):
        for other, start in enumerate(change.rows):
            found |= {end for end in ends if one != other and image == start + end}
    while True:
        more = {end for end in ends for rest in found for image in change.rows
                if (rest != "" and image == rest + end) or rest == image + end}
        if more <= found:
            return tuple(sorted(found))
        found |= more


class ClearTest(Checks, unittest.TestCase):
    def changes(self):
        chance = random.Random(3)
        return small_changes("ab", 3) + [random_change(chance, "abc", 4) for _ in range(200)] + [
            Change("x", [""]), Change("x", ["x"]), Change("x", ["xxxxxx"]), Change("abc", ["ababab", "ab", "bababa"])]

    def test_rests_by_definition(self):
        for change in self.changes():
            self.check_same(rests(change), rests_by_definition(change))

    def test_rests_told(self):
        self.assertEqual(rests(Change("ab", ["a", "ab"])), ("b",))
        self.assertIsNone(rests(Change("ab", ["a", ""])))
        self.assertEqual(rests(Change("ab", ["a", "b"])), ())
        self.assertEqual(rests(Change("ab", ["ba", "ba"])), ("",))
        self.assertEqual(rests(Change("ab", ["b", "bab"])), ("ab",))
        self.assertEqual(rests(Change("x", ["xx"])), ())
        # ascending as strings, not by length
        self.assertEqual(rests(Change("abc", ["c", "cb", "cab"])), ("ab", "b"))

    def test_clear_exactly_without_a_clash(self):
        for change in self.changes():
            pair = clash(change)
            self.assertIs(is_clear(change), pair is None)
            is_told = "" not in change.rows and "" not in rests(change)
            self.assertIs(is_clear(change), is_told)
            if pair is not None:
                self.assertIs(clash_holds(change, pair), True)
                self.assertIs(pair.__class__, tuple)

    def test_clear_by_trying(self):
        for change in small_changes("ab", 2):
            images = [change.of(row) for row in rows_to("ab", 5)]
            if is_clear(change):
                self.assertEqual(len(set(images)), len(images))

    def test_clash_holds(self):
        loose = Change("ab", ["a", "aa"])
        self.assertIs(clash_holds(loose, ("aa", "b")), True)
        self.assertIs(clash_holds(loose, ("b", "aa")), True)
        self.assertIs(clash_holds(loose, ["aa", "b"]), False)
        self.assertIs(clash_holds(loose, ("aa", "aa")), False)
        self.assertIs(clash_holds(loose, ("", "b")), False)
        self.assertIs(clash_holds(loose, ("aa", "b", "b")), False)
        self.assertIs(clash_holds(loose, ("aa", "c")), False)
        self.assertIs(clash_holds(loose, ("aac", "bc")), False)
        self.assertIs(clash_holds(loose, value=("ab", "ba")), True)
        self.assertIs(clash_holds(Change("ab", ["", "a"]), ("", "a")), True)

    def test_clash_holds_for_any_value(self):
        loose = Change("ab", ["a", "aa"])
        for value in any_values():
            self.assertIs(clash_holds(loose, value), value.__class__ is tuple and value == ("aa", "b"))
            self.assertIs(clash_holds(loose, (value, "b")), value.__class__ is str and value == "aa")
            self.assertIs(clash_holds(loose, ("b", value)), value.__class__ is str and value == "aa")


class OriginTest(Checks, unittest.TestCase):
    def test_by_trying(self):
        rows = rows_to("ab", 5)
        for change in small_changes("ab", 2):
            images = {}
            for row in rows:
                images.setdefault(change.of(row), []).append(row)
            for row in rows_to("ab", 3):
                found = images.get(row, [])
                self.assertEqual(origin(change, row), least(found))
                self.assertEqual(origins(change, row, 5), len(found))
                self.assertEqual(origins(change, row, 2), len([one for one in found if len(one) <= 2]))

    def test_edges(self):
        void = Change("ab", ["", ""])
        self.assertEqual((origin(void, ""), origin(void, "a")), ("", None))
        self.assertEqual((origins(void, "", 3), origins(void, "a", 3), origins(void, "", 0)), (15, 0, 1))
        self.assertEqual(origins(void, "", 200), 2 ** 201 - 1)
        plain = Change("ab", ["a", "b"])
        self.assertEqual((origin(plain, "ab" * 30), origins(plain, "ab" * 30, 59), origins(plain, "ab" * 30, 200)), ("ab" * 30, 0, 1))
        loose = Change("ab", ["a", "aa"])
        self.assertEqual(origin(loose, "a" * 60), "b" * 30)
        self.assertEqual(origin(loose, "a" * 59), "a" + "b" * 29)
        self.assertEqual(origin(Change("abc", ["ab", "a", "b"]), "abab"), "aa")
        self.assertEqual(origin(Change("abc", ["b", "ab", "a"]), "ab"), "b")
        self.assertEqual(origins(change=loose, row="aaa", most=2), 2)
        one, two = 1, 1
        for _ in range(60):
            one, two = two, one + two
        self.assertEqual(origins(loose, "a" * 60, 60), one)


if __name__ == "__main__":
    unittest.main()
