"""The rows that are read into a lot, in their order."""

from allrows.errors import InvalidRow
from allrows.lots import check_lot, flags_of
from allrows.readers import table_of
from allrows.tables import longest_from, number_of_row, row_numbered, ways_by_length
from allrows.values import is_row, is_rows, is_tuple_of
from allrows.walks import least_way


def least_row(reader, lot):
    """The least row that is read into the lot, or None."""
    check_lot(reader, lot)
    return _least_row_from(reader, reader.number_of(reader.first), _numbers_of(reader, lot))


def how_many(reader, lot, length):
    """How many rows of this length are read into the lot."""
    check_lot(reader, lot)
    ways = ways_by_length(table_of(reader), flags_of(reader, lot), length)
    return ways[length][reader.number_of(reader.first)]


def row_at(reader, lot, number):
    """The row with this number among those that are read into the lot, None if there are not so many."""
    check_lot(reader, lot)
    first = reader.number_of(reader.first)
    return row_numbered(reader.signs, table_of(reader), first, flags_of(reader, lot), number)


def place_of(reader, lot, row):
    """The number of a row among those that are read into the lot, None if it is not read into it."""
    check_lot(reader, lot)
    if not is_row(row, reader.signs):
        raise InvalidRow()
    first = reader.number_of(reader.first)
    return number_of_row(reader.signs, table_of(reader), first, flags_of(reader, lot), row)


def longest(reader, lot):
    """The greatest length of a row that is read into the lot, None if there is no row, or "endless"."""
    check_lot(reader, lot)
    return longest_from(table_of(reader), reader.number_of(reader.first), flags_of(reader, lot))


def ring_of(reader, lot):
    """Some ring whose rows are all read into the lot, or None."""
    check_lot(reader, lot)
    table = table_of(reader)
    goods = _numbers_of(reader, lot)
    for number in range(len(table)):
        ahead = _least_row_from(reader, reader.number_of(reader.first), [number])
        behind = _least_row_from(reader, number, goods)
        ring = _least_ring(reader, table, number)
        if ahead is not None and behind is not None and ring is not None:
            return (ahead, ring, behind)
    return None


def ring_holds(reader, lot, value):
    """Whether any value is a ring whose rows are all read into the lot."""
    check_lot(reader, lot)
    if not is_tuple_of(value, 3) or not is_rows(value, reader.signs):
        return False
    ahead, ring, behind = value
    mark = reader.read(ahead)
    return ring != "" and reader.led(mark, ring) == mark and reader.led(mark, behind) in lot


def _numbers_of(reader, lot):
    return [reader.number_of(mark) for mark in lot]


def _least_row_from(reader, begin, goods):
    """The least row that leads a mark to a good one, all told by numbers, or None."""
    table = table_of(reader)

    def lead(number, at):
        return table[number][at]

    def is_good(number):
        return number in goods

    return least_way(reader.signs, begin, lead, is_good)


def _least_ring(reader, table, number):
    """A not empty row that leads a mark to itself, or None."""
    for sign, target in zip(reader.signs, table[number]):
        rest = _least_row_from(reader, target, [number])
        if rest is not None:
            return sign + rest
    return None
