"""Rules: a left side in a row may be exchanged for a right side, which is less."""

from allrows.errors import InvalidRules
from allrows.tables import longest_from, ways_by_length
from allrows.values import is_integer, is_row, is_sequence, is_signs, is_tuple_of, row_order
from allrows.walks import walked_table


class Rules:
    """Signs, and pairs of a left side and a right side."""

    def __init__(self, signs, pairs):
        if not is_signs(signs):
            raise InvalidRules("signs")
        if not _is_pairs(pairs, signs):
            raise InvalidRules("pairs")
        self.signs = signs
        self.pairs = tuple(pairs)

    def moves(self, row):
        """All moves of a row: pairs of a place and the number of a pair whose left side stands there."""
        return tuple([
            (place, number)
            for place in range(len(row))
            for number, (left, _) in enumerate(self.pairs)
            if row.startswith(left, place)
        ])

    def after(self, row, move):
        """The row behind one of its moves."""
        place, number = move
        left, right = self.pairs[number]
        return row[:place] + right + row[place + len(left):]

    def reduced(self, row):
        """What a row comes to by its least moves."""
        return self.steps_down(row)[1]

    def road(self, row):
        """The least moves by which a row is reduced."""
        return tuple([move for _, move in self.steps_down(row)[0]])

    def steps_down(self, row):
        """The pairs of a row and its least move, one behind the other, and the row at which they end."""
        longest = max([len(left) for left, right in self.pairs], default=0)
        found = []
        move = _least_move(self, row, 0)
        while move is not None:
            found.append((row, move))
            row = self.after(row, move)
            # what stands further ahead had no move, and is as it was
            move = _least_move(self, row, max(0, move[0] - longest + 1))
        return (found, row)

    def __eq__(self, other):
        return isinstance(other, Rules) and self.signs == other.signs and self.pairs == other.pairs


def _least_move(rules, row, begin):
    """The least move at this place or behind it, or None."""
    for place in range(begin, len(row)):
        for number, (left, _) in enumerate(rules.pairs):
            if row.startswith(left, place):
                return (place, number)
    return None


def _is_pairs(value, signs):
    if not is_sequence(value) or not all([_is_pair(pair, signs) for pair in value]):
        return False
    lefts = [left for left, right in value]
    for at, left in enumerate(lefts):
        if any([left in other for number, other in enumerate(lefts) if number != at]):
            return False
    return True


def _is_pair(value, signs):
    if not is_tuple_of(value, 2) or not is_row(value[0], signs) or not is_row(value[1], signs):
        return False
    return row_order(value[1]) < row_order(value[0])


def overlaps(rules):
    """The triples of a row in which two left sides share signs, and the unlike rows that come of both moves."""
    found = {}
    for first, right in rules.pairs:
        for second, other_right in rules.pairs:
            for many in range(1, min(len(first), len(second))):
                if first.endswith(second[:many]):
                    rests = sorted([right + second[many:], first[:-many] + other_right], key=row_order)
                    triple = (first + second[many:], *rests)
                    found[triple] = True
    return tuple(sorted([triple for triple in found if triple[1] != triple[2]]))


def open_overlaps(rules):
    """Those overlaps whose two rows come to unlike ones."""
    return tuple([triple for triple in overlaps(rules) if rules.reduced(triple[1]) != rules.reduced(triple[2])])


def is_complete(rules):
    """Whether all moves of a row can be led on to one row."""
    return open_overlaps(rules) == ()


def plain_rows(rules):
    """All rows without a move, the lesser first, None if they are endlessly many."""
    table, flags = _plain_table(rules)
    longest = longest_from(table, 0, flags)
    if longest == "endless":
        return None
    found = [("", 0)]
    at = 0
    while at < len(found):
        row, state = found[at]
        found.extend([(row + sign, end) for sign, end in zip(rules.signs, table[state]) if flags[end]])
        at += 1
    return tuple([row for row, state in found])


def many_plain(rules, long):
    """How many rows with so many signs have no move."""
    table, flags = _plain_table(rules)
    return ways_by_length(table, flags, long)[long][0]


def _plain_table(rules):
    """States of rows: where signs lead each of them, and whether its rows are plain.

    A state is the longest end of a row that is a beginning of a left side, None if the row is not plain.
    """
    lefts = [pair[0] for pair in rules.pairs]
    begins = {"": True}
    for first in lefts:
        for end in range(1, len(first)):
            begins[first[:end]] = True

    def lead(state, at):
        if state is None:
            return None
        row = state + rules.signs[at]
        if any([row.endswith(left) for left in lefts]):
            return None
        return [row[begin:] for begin in range(len(row) + 1) if row[begin:] in begins][0]

    states, _, table = walked_table(rules.signs, "", lead)
    return (table, [state is not None for state in states])


def chain(rules, one, other):
    """Some chain of moves, done forth and back, from one row to another one, or None."""
    if one == other:
        return ()
    forth, end = rules.steps_down(one)
    back, other_end = rules.steps_down(other)
    if end != other_end:
        return None
    behind = [row for row, move in back[1:]] + [other_end]
    told = [(row, move, False) for row, move in forth]
    told.extend([(row, move, True) for row, (_, move) in reversed(list(zip(behind, back)))])
    return tuple(told)


def chain_holds(rules, one, other, value):
    """Whether any value is a chain from one row to another one."""
    if not isinstance(value, tuple) or not all([_is_link(rules, triple) for triple in value]):
        return False
    rows = [triple[0] for triple in value] + [other]
    if rows[0] != one:
        return False
    for (row, move, is_back), following in zip(value, rows[1:]):
        begin, end = (following, row) if is_back else (row, following)
        if not _is_move(rules, begin, move) or rules.after(begin, move) != end:
            return False
    return True


def _is_link(rules, value):
    """Whether any value is a triple of a row, a pair of integers and a bool."""
    if not is_tuple_of(value, 3) or not is_row(value[0], rules.signs) or not isinstance(value[2], bool):
        return False
    return is_tuple_of(value[1], 2) and is_integer(value[1][0]) and is_integer(value[1][1])


def _is_move(rules, row, move):
    place, number = move
    if not 0 <= number < len(rules.pairs) or not 0 <= place < len(row):
        return False
    return row.startswith(rules.pairs[number][0], place)
