"""The rows that are read into a lot, in their order."""

from allrows.lots import check_lot, flags_of
from allrows.readers import table_of
from allrows.values import is_rows, is_tuple_of
from allrows.walks import least_way


def least_row(reader, lot):
    """The least row that is read into the lot, or None."""
    check_lot(reader, lot)
    return _least_row_from(reader, reader.number_of(reader.first), _numbers_of(reader, lot))


def how_many(reader, lot, length):
    """How many rows of this length are read into the lot."""
    check_lot(reader, lot)
    return _ways_by_length(reader, lot, length)[length][reader.number_of(reader.first)]


def row_at(reader, lot, number):
    """The row with this number among those that are read into the lot, None if there are not so many."""
    check_lot(reader, lot)
    table = table_of(reader)
    first = reader.number_of(reader.first)
    last = _longest(reader, lot)
    ways = _ways_by_length(reader, lot, 0)
    while last is not None:
        if number < ways[-1][first]:
            return _row_of_length(reader, table, ways, number)
        if last == len(ways) - 1:
            return None
        number -= ways[-1][first]
        ways.append(_ways_ahead(table, ways[-1]))
    return None


def _row_of_length(reader, table, ways, number):
    """The row with this number among those with one sign less than there are ways."""
    at = reader.number_of(reader.first)
    row = ""
    for left in reversed(range(len(ways) - 1)):
        for sign, target in zip(reader.signs, table[at]):
            if number < ways[left][target]:
                row += sign
                at = target
                break
            number -= ways[left][target]
    return row


def place_of(reader, lot, row):
    """The number of a row among those that are read into the lot, None if it is not read into it."""
    check_lot(reader, lot)
    if reader.read(row) not in lot:
        return None
    table = table_of(reader)
    ways = _ways_by_length(reader, lot, len(row))
    at = reader.number_of(reader.first)
    number = sum([ways[length][at] for length in range(len(row))])
    for place, sign in enumerate(row):
        place_of_sign = reader.signs.index(sign)
        number += sum([ways[len(row) - place - 1][target] for target in table[at][:place_of_sign]])
        at = table[at][place_of_sign]
    return number


def _ways_by_length(reader, lot, length):
    """For each length up to this one how many rows lead each mark into the lot."""
    table = table_of(reader)
    ways = [[int(flag) for flag in flags_of(reader, lot)]]
    for _ in range(length):
        ways.append(_ways_ahead(table, ways[-1]))
    return ways


def _ways_ahead(table, ways):
    """How many rows lead each mark into the lot, told by how many with a sign less do."""
    return [sum([ways[target] for target in targets]) for targets in table]


def longest(reader, lot):
    """The greatest length of a row that is read into the lot, None if there is no row, or "endless"."""
    check_lot(reader, lot)
    return _longest(reader, lot)


def _longest(reader, lot):
    table = table_of(reader)
    flags = flags_of(reader, lot)
    marks = [reader.number_of(reader.first)]
    most = None
    # rows of at least as many signs as there are marks come to a mark twice: one of them is shorter than
    # twice as many signs, if there is one at all
    for length in range(2 * len(table)):
        if any([flags[mark] for mark in marks]):
            most = length
        marks = sorted(set([target for mark in marks for target in table[mark]]))
    if most is not None and most >= len(table):
        return "endless"
    return most


def ring_of(reader, lot):
    """Some ring whose rows are all read into the lot, or None."""
    check_lot(reader, lot)
    table = table_of(reader)
    goods = _numbers_of(reader, lot)
    for number in range(len(table)):
        ahead = _least_row_from(reader, reader.number_of(reader.first), [number])
        behind = _least_row_from(reader, number, goods)
        ring = _least_ring(reader, table, number)
        if ahead is not None and behind is not None and ring is not None:
            return (ahead, ring, behind)
    return None


def ring_holds(reader, lot, value):
    """Whether any value is a ring whose rows are all read into the lot."""
    check_lot(reader, lot)
    if not is_tuple_of(value, 3) or not is_rows(value, reader.signs):
        return False
    ahead, ring, behind = value
    mark = reader.read(ahead)
    return ring != "" and reader.led(mark, ring) == mark and reader.led(mark, behind) in lot


def _numbers_of(reader, lot):
    return [reader.number_of(mark) for mark in lot]


def _least_row_from(reader, begin, goods):
    """The least row that leads a mark to a good one, all told by numbers, or None."""
    table = table_of(reader)

    def lead(number, at):
        return table[number][at]

    def is_good(number):
        return number in goods

    return least_way(reader.signs, begin, lead, is_good)


def _least_ring(reader, table, number):
    """A not empty row that leads a mark to itself, or None."""
    for sign, target in zip(reader.signs, table[number]):
        rest = _least_row_from(reader, target, [number])
        if rest is not None:
            return sign + rest
    return None
