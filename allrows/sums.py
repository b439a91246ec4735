"""Sums of counts of terms."""

from allrows.errors import InvalidSum, InvalidText
from allrows.terms import Term
from allrows.values import is_integer, is_integer_text, is_name, is_sequence, is_tuple_of


class Sum:
    """Factors with names of counts and terms, and a number."""

    def __init__(self, parts, number=0):
        if not is_sequence(parts) or not all([_is_part(part) for part in parts]):
            raise InvalidSum("parts")
        if not is_integer(number):
            raise InvalidSum("number")
        self.parts = tuple(parts)
        self.number = number

    @classmethod
    def parse(cls, signs, text):
        if not isinstance(text, str):
            raise InvalidText(0)
        pieces = _pieces_of_text(text)
        number = 0
        if is_integer_text(pieces[-1]) and (pieces[-1] != "0" or len(pieces) == 1):
            number = int(pieces.pop())
        return cls([_part_of_text(signs, piece) for piece in pieces], number)

    @property
    def names(self):
        return tuple(sorted(set([name for part in self.parts for name in part[2].names])))

    def scaled(self, factor):
        """The sum so many times."""
        if factor == 0:
            return Sum([])
        return Sum([(factor * own, name, term) for own, name, term in self.parts], factor * self.number)

    def put(self, name, term):
        """The sum with a term put for a name."""
        return Sum([(factor, count, own.put(name, term)) for factor, count, own in self.parts], self.number)

    def __add__(self, other):
        if not isinstance(other, Sum):
            return NotImplemented
        return Sum(self.parts + other.parts, self.number + other.number)

    def __eq__(self, other):
        return isinstance(other, Sum) and self.parts == other.parts and self.number == other.number

    def __str__(self):
        return " + ".join(_texts_of_sum(self))


def worth(house, total, rows):
    """The number that a sum has if these rows stand for its names."""
    counts = [house.count_of(name) for factor, name, term in total.parts]
    told = [part[0] * count.of(part[2].spelled(rows)) for part, count in zip(total.parts, counts)]
    return sum(told) + total.number


def _texts_of_sum(total):
    texts = [f"{factor} * {name}({term})" for factor, name, term in total.parts]
    if total.number == 0 and texts:
        return texts
    return [*texts, str(total.number)]


def _is_part(value):
    if not is_tuple_of(value, 3) or not is_integer(value[0]) or value[0] == 0:
        return False
    return is_name(value[1]) and isinstance(value[2], Term)


def _pieces_of_text(text):
    """The pieces of a text between its signs +, but for those within brackets."""
    pieces = []
    is_open = False
    for piece in text.split(" + "):
        if is_open:
            pieces[-1] = f"{pieces[-1]} + {piece}"
        else:
            pieces.append(piece)
        is_open = pieces[-1].count("(") > pieces[-1].count(")")
    return pieces


def _part_of_text(signs, text):
    factor, _, rest = text.partition(" * ")
    name, _, inner = rest.partition("(")
    if not is_integer_text(factor) or factor == "0" or not is_name(name) or not inner.endswith(")"):
        raise InvalidText(0)
    return (int(factor), name, _term_of_text(signs, inner[:-1]))


def _term_of_text(signs, text):
    try:
        return Term.parse(signs, text)
    except InvalidText:
        raise InvalidText(0) from None
