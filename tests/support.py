"""What several tests use: rows, readers, any values, and a house that tells counts."""

import random
from itertools import product

from allrows.changes import Change
from allrows.counts import Count
from allrows.errors import NoName
from allrows.readers import Reader
from allrows.sights import Sight
from allrows.sums import Sum
from allrows.terms import Term

EVEN = Reader("ab", ["ev", "od"], "ev", [["od", "ev"], ["ev", "od"]])
LAST = Reader("ab", ["no", "yes", "so"], "no", [["yes", "so"], ["yes", "so"], ["yes", "no"]])
END = Reader("ab", ["no", "yes"], "no", [["yes", "no"], ["yes", "no"]])
ONE_MARK = Reader("ab", ["it"], "it", [["it", "it"]])
ONE_SIGN = Reader("x", ["aa", "bb", "cc"], "aa", [["bb"], ["cc"], ["bb"]])
LOOSE_END = Reader("ab", ["aa", "bb", "cc", "dd"], "aa", [["bb", "cc"], ["bb", "bb"], ["cc", "cc"], ["aa", "bb"]])
SWAP = Change("ab", ["b", "a"])
NAMES_THAT_ARE_NONE = ("back", "is", "not", "and", "or", "if", "then", "for", "all", "some", "", "a", "abcdefg", "aB", "a1",
                       "a b", " ab", "\xe9\xe9", "AB")


def any_values():
    """Values of all kinds, made anew."""
    return [
        0, 1, 2, -1, 10 ** 12, True, False, None, "", "a", "b", "ab", "ba", "abc", "aa", "xx", "or", "back", "A", "\xe9", "a b",
        [], (), [[]], ((),), [()], [None], (True,), (0,), [1, 2], ("a", "b"), ["a", "b"], ("aa", "b"), [["a"], ["b"]],
        ((("a",),),), [[[[[[[[]]]]]]]], ("row", "a"), ["row", "a"], ("name", "xx", False, None), (None, None), (1, 2, 3),
        ("", "a", ""), ["", "a", ""], (("ev", "od"),), (["ev", "od"],), (("ev", "ev"),), SWAP, (SWAP,), [SWAP, SWAP],
        Term.of_name("xx"), (Term.of_row("a"),), EVEN, (EVEN,), [EVEN, None, False], (EVEN, None, False), (EVEN, None, 0),
        Sight("ab", [(EVEN, None, False)]), Count(EVEN, [[0, 1], [1, 0]], [0, 0]), Sum([], 3), (Sum([], 3), "a"),
    ]


def rows_to(signs, most):
    """All rows of at most so many signs, the lesser first."""
    return ["".join(row) for length in range(most + 1) for row in product(signs, repeat=length)]


def least(rows):
    return min(rows, key=lambda row: (len(row), row), default=None)


def random_reader(chance, signs, most=4):
    many = chance.randint(1, most)
    marks = chance.sample(["aa", "bb", "cc", "dd", "zz", "yes", "no", "first", "reader", "add", "end"], many)
    return Reader(signs, marks, chance.choice(marks), [[chance.choice(marks) for _ in signs] for _ in marks])


def random_lot(chance, reader):
    lot = [mark for mark in reader.marks if chance.random() < 0.5]
    chance.shuffle(lot)
    return tuple(lot) if chance.random() < 0.5 else lot


def readers_with_lots(seed, many, signs=("a", "ab", "abc")):
    """So many pairs of a random reader and a lot of it, the same ones each time."""
    chance = random.Random(seed)
    for _ in range(many):
        reader = random_reader(chance, chance.choice(signs))
        yield reader, random_lot(chance, reader)


def random_change(chance, signs, most=3):
    return Change(signs, ["".join(chance.choice(signs) for _ in range(chance.randint(0, most))) for _ in signs])


def random_term(chance, signs, names=("xx", "yy"), most=4):
    parts = []
    for _ in range(chance.randint(0, most)):
        if chance.random() < 0.3:
            parts.append(("row", "".join(chance.choice(signs) for _ in range(chance.randint(0, 3)))))
        else:
            change = random_change(chance, signs) if chance.random() < 0.5 else None
            parts.append(("name", chance.choice(names), chance.random() < 0.5, change))
    return Term(parts)


class Counts:
    """What worth asks of a house: its counts."""

    def __init__(self, counts):
        self.counts = counts

    def count_of(self, name):
        if name not in self.counts:
            raise NoName(name)
        return self.counts[name]


class Checks:
    """Ways to check, for test cases."""

    def check_error(self, error, call, **attributes):
        with self.assertRaises(error) as caught:
            call()
        self.assertIs(error, caught.exception.__class__)
        for name, value in attributes.items():
            kept = getattr(caught.exception, name)
            self.assertTrue(kept is value or (kept == value and kept.__class__ is value.__class__), (kept, value))

    def check_same(self, one, other):
        """Equal, and of the same kinds throughout (1 is not True, a list no tuple)."""
        self.assertEqual(one, other)
        self.assertIs(one.__class__, other.__class__)
        if isinstance(one, (list, tuple)):
            for inner, other_inner in zip(one, other):
                self.check_same(inner, other_inner)
