"""What several tests use: rows, readers, houses, sayings, any values, and ways to try rows one by one."""

import random
from itertools import product

from allrows.books import Book
from allrows.changes import Change
from allrows.conditions import Condition
from allrows.counts import Count
from allrows.deciding import sight_of
from allrows.houses import House
from allrows.readers import Reader
from allrows.rules import Rules
from allrows.sayings import Saying
from allrows.sights import Sight
from allrows.sums import Sum
from allrows.terms import Term

EVEN = Reader("ab", ["ev", "od"], "ev", [["od", "ev"], ["ev", "od"]])
LAST = Reader("ab", ["no", "yes", "so"], "no", [["yes", "so"], ["yes", "so"], ["yes", "no"]])
END = Reader("ab", ["no", "yes"], "no", [["yes", "no"], ["yes", "no"]])
ONE_MARK = Reader("ab", ["it"], "it", [["it", "it"]])
ONE_SIGN = Reader("x", ["aa", "bb", "cc"], "aa", [["bb"], ["cc"], ["bb"]])
LOOSE_END = Reader("ab", ["aa", "bb", "cc", "dd"], "aa", [["bb", "cc"], ["bb", "bb"], ["cc", "cc"], ["aa", "bb"]])
SWAP = Change("ab", ["b", "a"])
ODD = Reader("ab", ["even", "odd"], "even", [["odd", "even"], ["even", "odd"]])
HOME = House("ab", [("odds", ODD), ("ends", END)])
NAMES_THAT_ARE_NONE = ("back", "is", "not", "and", "or", "if", "then", "for", "all", "some", "", "a", "abcdefg", "aB", "a1",
                       "a b", " ab", "\xe9\xe9", "AB")


def any_values():
    """Values of all kinds, made anew."""
    return [
        0, 1, 2, -1, 10 ** 12, True, False, None, "", "a", "b", "ab", "ba", "abc", "aa", "xx", "or", "back", "A", "\xe9", "a b",
        [], (), [[]], ((),), [()], [None], (True,), (0,), [1, 2], ("a", "b"), ["a", "b"], ("aa", "b"), [["a"], ["b"]],
        ((("a",),),), [[[[[[[[]]]]]]]], ("row", "a"), ["row", "a"], ("name", "xx", False, None), (None, None), (1, 2, 3),
        ("", "a", ""), ["", "a", ""], (("ev", "od"),), (["ev", "od"],), (("ev", "ev"),), SWAP, (SWAP,), [SWAP, SWAP],
        Term.of_name("xx"), (Term.of_row("a"),), EVEN, (EVEN,), [EVEN, None, False], (EVEN, None, False), (EVEN, None, 0),
        Sight("ab", [(EVEN, None, False)]), Count(EVEN, [[0, 1], [1, 0]], [0, 0]), Sum([], 3), (Sum([], 3), "a"),
        HOME, (HOME, "a"), Saying.parse(HOME, "odds(xx) is even"), [Saying.parse(HOME, "odds(xx) is even")],
        Condition("ab", [[1, 0], [0, 1]], [0]), (Condition("ab", [[0, 0]], []), "xx"),
        Rules("ab", [("b", "")]), Book(HOME), (Book(HOME), "a"),
    ]


def rows_to(signs, most):
    """All rows of at most so many signs, the lesser first."""
    return ["".join(row) for length in range(most + 1) for row in product(signs, repeat=length)]


def least(rows):
    return min(rows, key=lambda row: (len(row), row), default=None)


def random_reader(chance, signs, most=4):
    many = chance.randint(1, most)
    marks = chance.sample(["aa", "bb", "cc", "dd", "zz", "yes", "no", "first", "reader", "add", "end"], many)
    return Reader(signs, marks, chance.choice(marks), [[chance.choice(marks) for _ in signs] for _ in marks])


def random_lot(chance, reader):
    lot = [mark for mark in reader.marks if chance.random() < 0.5]
    chance.shuffle(lot)
    return tuple(lot) if chance.random() < 0.5 else lot


def readers_with_lots(seed, many, signs=("a", "ab", "abc")):
    """So many pairs of a random reader and a lot of it, the same ones each time."""
    chance = random.Random(seed)
    for _ in range(many):
        reader = random_reader(chance, chance.choice(signs))
        yield reader, random_lot(chance, reader)


def random_change(chance, signs, most=3):
    return Change(signs, ["".join(chance.choice(signs) for _ in range(chance.randint(0, most))) for _ in signs])


def random_term(chance, signs, names=("xx", "yy"), most=4):
    parts = []
    for _ in range(chance.randint(0, most) if chance.random() < 0.5 else most):
        if chance.random() < 0.3:
            parts.append(("row", "".join(chance.choice(signs) for _ in range(chance.randint(0, 3)))))
        else:
            change = random_change(chance, signs) if chance.random() < 0.5 else None
            parts.append(("name", chance.choice(names), chance.random() < 0.5, change))
    return Term(parts)


def random_count(chance, signs, most=2):
    reader = random_reader(chance, signs, most)
    return Count(reader, [[chance.randint(-2, 2) for _ in signs] for _ in reader.marks], [chance.randint(-3, 3) for _ in reader.marks])


def random_condition(chance, signs, most=4):
    many = chance.randint(1, most)
    steps = [[chance.randrange(many) for _ in signs] for _ in range(many)]
    return Condition(signs, steps, [mark for mark in range(many) if chance.random() < 0.5])


def wide_reader(chance, signs, most):
    """A reader in which one mark more seldom stands alone."""
    told = [random_reader(chance, signs, most) for _ in range(4)]
    return max(told, key=lambda reader: len(set(mark for targets in reader.steps for mark in targets)))


def random_house(chance, signs="ab", most=2, counts=0):
    """A house with two readers, and counts, of at most so many marks."""
    readers = [("one", wide_reader(chance, signs, most)), ("two", wide_reader(chance, signs, most))]
    return House(signs, readers, [(name, random_count(chance, signs, most)) for name in ("size", "peak", "sum")[:counts]])


def random_atom(chance, house, names, most=2):
    reader, other = chance.choice(house.readers), chance.choice(house.readers)
    term = random_term(chance, house.signs, names, most)
    if chance.random() < 0.6:
        return Saying(house, ("is", reader[0], term, chance.choice(reader[1].marks)))
    return Saying(house, ("same", reader[0], term, other[0], random_term(chance, house.signs, names, most)))


def random_saying(chance, house, names, deep, quantifiers=1):
    """A saying of these names, with at most so many sayings in one another, and so many of these quantified."""
    if deep == 0:
        return random_atom(chance, house, names)
    word = chance.choice(["not", "and", "or", "if"] + ["all", "some"] * (quantifiers > 0))
    if word == "not":
        return Saying(house, (word, random_saying(chance, house, names, deep - 1, quantifiers)))
    if word in ("all", "some"):
        return Saying(house, (word, chance.choice(names), random_saying(chance, house, names, deep - 1, quantifiers - 1)))
    return Saying(house, (word, random_saying(chance, house, names, deep - 1, quantifiers),
                          random_saying(chance, house, names, deep - 1, 0)))


def is_small(saying, most):
    """Whether the points of the sights of all names, bound ones too, are few enough for trying rows."""
    word = saying.form[0]
    points = 1
    for name in saying.names:
        points *= len(sight_of(saying, name).points())
    if points > most:
        return False
    inner = [part for part in saying.form[1:] if isinstance(part, Saying)]
    if word in ("all", "some"):
        sight = sight_of(saying.form[2], saying.form[1])
        points *= 1 if sight is None else len(sight.points())
    return points <= most and all(is_small(part, most) for part in inner)


def small_sayings(seed, many, most=40, names=("xx", "yy"), deep=3, quantifiers=1, signs=("a", "ab"), counts=0):
    chance = random.Random(seed)
    told = []
    while len(told) < many:
        house = random_house(chance, chance.choice(signs), chance.choice((2, 3)), counts)
        saying = random_saying(chance, house, names, chance.randint(0, deep), quantifiers)
        if is_small(saying, most):
            told.append(saying)
    return told


def rows_for(sight, signs, further=1):
    """Rows enough for all that the sight sees, and some longer ones."""
    longest = 0 if sight is None else max(len(row) for _, row in sight.points())
    return rows_to(signs, longest + further)


# for each quantified saying (kept, so that its id stays its own) the rows that are tried
KNOWN_ROWS = {}


def tried(saying, rows):
    """Whether a saying holds for these rows, by trying rows for what is bound."""
    house, form = saying.house, saying.form
    if form[0] == "is":
        return house.reader_of(form[1]).read(form[2].spelled(rows)) == form[3]
    if form[0] == "same":
        return house.reader_of(form[1]).read(form[2].spelled(rows)) == house.reader_of(form[3]).read(form[4].spelled(rows))
    if form[0] == "not":
        return not tried(form[1], rows)
    if form[0] == "and":
        return tried(form[1], rows) and tried(form[2], rows)
    if form[0] == "or":
        return tried(form[1], rows) or tried(form[2], rows)
    if form[0] == "if":
        return not tried(form[1], rows) or tried(form[2], rows)
    if id(saying) not in KNOWN_ROWS:
        KNOWN_ROWS[id(saying)] = (saying, rows_for(sight_of(form[2], form[1]), house.signs, 0))
    told = (tried(form[2], {**rows, form[1]: row}) for row in KNOWN_ROWS[id(saying)][1])
    return all(told) if form[0] == "all" else any(told)


def all_rows(names, lists):
    """All dicts from names to rows of their lists."""
    return [dict(zip(names, rows)) for rows in product(*lists)]


def rows_of_names(saying, further=1):
    """Dicts of rows for the free names, enough for all that the saying hears of them."""
    names = saying.names
    return all_rows(names, [rows_for(sight_of(saying, name), saying.house.signs, further) for name in names])


class Checks:
    """Ways to check, for test cases."""

    def check_error(self, error, call, **attributes):
        with self.assertRaises(error) as caught:
            call()
        self.assertIs(error, caught.exception.__class__)
        for name, value in attributes.items():
            kept = getattr(caught.exception, name)
            self.assertTrue(kept is value or (kept == value and kept.__class__ is value.__class__), (kept, value))

    def check_same(self, one, other):
        """Equal, and of the same kinds throughout (1 is not True, a list no tuple)."""
        self.assertEqual(one, other)
        self.assertIs(one.__class__, other.__class__)
        if isinstance(one, (list, tuple)):
            for inner, other_inner in zip(one, other):
                self.check_same(inner, other_inner)
