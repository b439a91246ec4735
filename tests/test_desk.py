"""[87], [88]: desks, their commands and errors."""

import random
import unittest

from allrows.books import Book
from allrows.deciding import fails
from allrows.deductions import deduction_of
from allrows.desk import Desk
from allrows.errors import InvalidCommand, InvalidCount, InvalidHouse, InvalidReader, InvalidRow, InvalidSaying, InvalidText, NoName, Refused, RowError
from allrows.houses import House
from allrows.sayings import Saying
from random_books import FALSE, HALL, TRUE, said
from support import HOME, Checks, any_values, small_sayings


def text_of(house):
    return str(house).replace("\n", " ; ")


def desk_of(house=HALL):
    desk = Desk()
    desk.say("house " + text_of(house))
    return desk


class DeskTest(Checks, unittest.TestCase):
    def check_refused(self, desk, error, command, **attributes):
        """The command raises, and nothing changes by it."""
        live = desk.live
        kept = None if live is None else (live.book, len(live))
        self.check_error(error, lambda: desk.say(command), **attributes)
        self.assertIs(desk.live, live)
        if live is not None:
            self.assertEqual((live.book, len(live)), kept)

    def test_house(self):
        desk = Desk()
        self.assertIsNone(desk.live)
        self.check_same(desk.say("house " + text_of(HALL)), "4")
        self.assertEqual(desk.live.book, Book(HALL))
        live = desk.live
        desk.say("take aa odds(row) is even")
        self.check_same(desk.say(command="house house ab"), "0")
        self.assertIsNot(desk.live, live)
        self.assertEqual(desk.live.book, Book(House("ab", [])))
        self.assertEqual((len(desk.live), len(live)), (0, 1))
        self.assertEqual(desk.say("house " + text_of(HOME)), "2")

    def test_houses_that_cannot_be_read(self):
        for desk in (Desk(), desk_of()):
            for text, error, attributes in (("no", InvalidText, {"at": 0}), ("house ab ; reader odds", InvalidText, {"at": 2}), ("house ab; reader odds", InvalidText, {"at": 0}),
                                            ("house ab ;  ; house ab", InvalidText, {"at": 1}), ("house ab ; ", InvalidText, {"at": 1}), ("", InvalidText, {"at": 0}),
                                            (" house ab", InvalidText, {"at": 0}), ("house ab ; reader odds ; reader ab", InvalidText, {"at": 2}),
                                            ("house ba", InvalidHouse, {"word": "signs"}), (text_of(HOME).replace("first even", "first other"), InvalidReader, {"word": "first"}),
                                            (text_of(HALL).replace("add go: 1 1", "add go: 1"), InvalidCount, {"word": "adds"})):
                self.check_refused(desk, error, "house " + text, **attributes)
        # replaced from left to right: of two such signs with one blank between them only the first one stands for a newline
        self.check_refused(Desk(), InvalidText, "house house ab ; ; reader odds", at=1)

    def test_show_and_take(self):
        desk = desk_of()
        self.check_same(desk.say("show turn odds(row) is odds(back row)"), "shown")
        self.check_same(desk.say("take sure odds(row) is even"), "taken")
        self.check_same(desk.say("show wrong odds(row) is even"), "row=a")
        self.assertEqual(desk.live.book.lemmas, (("turn", TRUE[1], deduction_of(TRUE[1])), ("sure", FALSE[0], None)))
        self.check_same(desk.say("show wrong ( odds(one) is even or ends(two) is yes )"), "one=a two=-")
        self.check_same(desk.say("show wrong for all row odds(row) is even"), "always")
        self.check_refused(desk, Refused, "show sure odds(row) is odd", at=1)
        self.check_refused(desk, Refused, "take turn odds(row) is odd", at=0)
        self.assertEqual(desk.say("show turn odds(row) is odds(back row)"), "shown")
        self.assertEqual((desk.live.book.names, len(desk.live)), (("turn", "sure"), 3))

    def test_drop_names_undo(self):
        desk = desk_of()
        self.check_same(desk.say("names"), "-")
        self.check_same(desk.say("undo"), "nothing")
        for name in ("cc", "aa", "bb"):
            desk.say(f"take {name} odds(row + row) is even")
        self.check_same(desk.say("names"), "cc aa bb")
        desk.live.put("dd", TRUE[0], ((TRUE[0], ("told", "aa")),))
        self.check_same(desk.say("drop aa"), "aa dd")
        self.check_same(desk.say("drop cc"), "cc")
        self.check_same((desk.say("names"), desk.say("undo"), desk.say("names")), ("bb", "undone", "cc bb"))
        self.check_refused(desk, NoName, "drop aa", name="aa")
        self.assertEqual([desk.say("undo") for _ in range(7)], ["undone"] * 5 + ["nothing"] * 2)

    def test_holds(self):
        desk = desk_of()
        self.check_same(desk.say("holds odds(row + row) is even"), "yes")
        self.check_same(desk.say("holds odds(one + two) is odds(one)"), "one=- two=a")
        self.check_same(desk.say("holds for all xx odds(xx) is even"), "always")
        self.check_same(desk.say("holds for all xx odds(xx + xx) is even"), "yes")
        self.check_same(desk.say("holds ( not ends(one) is yes or odds(two) is odd )"), "one=a two=-")
        self.assertEqual(len(desk.live), 0)
        for saying in small_sayings(87, 60, 30, ("xx", "yy"), 2, 1):
            rows = fails(saying)
            told = "yes" if rows is None else " ".join(f"{name}={row or '-'}" for name, row in rows) or "always"
            self.assertEqual(desk_of(saying.house).say(f"holds {saying}"), told)

    def test_read_and_count(self):
        desk = desk_of()
        self.check_same((desk.say("read odds ab"), desk.say("read odds -"), desk.say("read ends bba")), ("odd", "even", "yes"))
        self.check_same((desk.say("count size abab"), desk.say("count size -"), desk.say("count peak abab")), ("4", "0", "2"))
        for command in ("read size ab", "read none ab", "read none zz", "read house -"):
            self.check_refused(desk, NoName, command, name=command.split()[1])
        for command in ("count odds ab", "count none 0"):
            self.check_refused(desk, NoName, command, name=command.split()[1])
        for row in ("c", "--", "a-", "AB", "1", "''", "'ab'", "\xe9"):
            self.check_refused(desk, InvalidRow, "read odds " + row)
            self.check_refused(desk, InvalidRow, "count size " + row)
        low = Desk()
        low.say("house " + text_of(HALL).replace("add go: 1 1 end 0", "add go: -1 0 end 0"))
        self.assertEqual(low.say("count size aab"), "-2")

    def test_commands_of_no_form(self):
        desk = desk_of()
        desk.say("take aa odds(row) is even")
        for command in any_values() + [
                "", " ", "house", "names ", " names", "names  ", "names aa", "undo 1", "undo ", "nothing", "Names", "NAMES", "shown aa odds('a') is odd",
                "drop", "drop ", "drop aa bb", "drop is", "drop a", "drop aa1", "drop AA", "show", "show aa", "show aa ", "show is odds('a') is odd", "show odds('a') is odd",
                "show a odds('a') is odd", "show aa odds('a')  is odd", "show  aa odds('a') is odd", "show aa  odds('a') is odd", "show aa odds('a') is odd ",
                "take", "take aa", "take aa ", "take abcdefg odds('a') is odd", "holds", "holds ", "holds  odds('a') is odd", "holds odds('a') is odd ",
                "read", "read odds", "read odds ", "read odds  a", "read odds a b", "read o ab", "read is ab", "read odds a ", "count", "count size", "count size a b", "count 1 ab",
                "names\n", "\nnames", "house house ab\n", "house house ab\nreader odds", "holds odds('a')\nis odd", "drop\naa", "read odds a\n", b"names", ["names"], ("names",)]:
            self.check_refused(desk, InvalidCommand, command)
        self.assertTrue(issubclass(InvalidCommand, RowError))

    def test_without_a_live_book(self):
        for command in ("show aa odds(row) is even", "take aa odds(row) is even", "drop aa", "names", "holds odds(row) is even", "read odds a", "count size a", "undo",
                        "read odds zz", "holds nothing", "show aa nothing"):
            self.check_refused(Desk(), InvalidCommand, command)
        desk = Desk()
        self.check_refused(desk, InvalidText, "house nothing", at=0)
        self.check_refused(desk, InvalidCommand, "names")

    def test_sayings_that_cannot_be_read(self):
        desk = desk_of()
        desk.say("take aa odds(row) is even")
        for begin in ("show bb ", "take bb ", "holds ", "show aa "):
            for text in ("nothing", "odds(row)", "odds(row) is", "( odds(row) is even )", "odds(row + 'c') is even", "odds(row) is even and odds(row) is odd", "1"):
                self.check_refused(desk, InvalidText, begin + text, at=0)
            self.check_refused(desk, InvalidSaying, begin + "none(row) is even", word="reader")
            self.check_refused(desk, InvalidSaying, begin + "odds(row) is yes", word="mark")

    def test_as_live(self):
        chance = random.Random(88)
        for _ in range(20):
            desk = desk_of()
            live = desk_of().live
            for _ in range(15):
                word = chance.choice(("show", "take", "drop", "undo", "names"))
                name, claim = chance.choice(("aa", "bb", "cc")), chance.choice([one for one in TRUE + FALSE if isinstance(one, Saying)])
                command = {"show": f"show {name} {claim}", "take": f"take {name} {claim}", "drop": f"drop {name}"}.get(word, word)
                try:
                    told = {"show": lambda: live.show(name, claim), "take": lambda: live.take(name, claim), "drop": lambda: live.drop(name), "undo": live.undo,
                            "names": lambda: live.book.names}[word]()
                except (Refused, NoName) as error:
                    self.check_refused(desk, error.__class__, command)
                    continue
                wanted = {"take": "taken", "undo": "undone" if told else "nothing"}.get(word)
                if word == "show":
                    wanted = "shown" if told is None else " ".join(f"{own}={row or '-'}" for own, row in told) or "always"
                if word in ("drop", "names"):
                    wanted = " ".join(told) or "-"
                self.check_same(desk.say(command), wanted)
                self.assertEqual((desk.live.book, len(desk.live)), (live.book, len(live)))

    def test_two_desks(self):
        one, other = desk_of(), desk_of(HOME)
        one.say("take aa odds(row) is even")
        self.assertEqual((other.say("names"), one.say("names")), ("-", "aa"))
        self.assertEqual(said("odds('a') is odd").house, one.live.book.house)
        with self.assertRaises(TypeError):
            iter(one)


if __name__ == "__main__":
    unittest.main()
