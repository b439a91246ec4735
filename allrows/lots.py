"""Lots of marks of a reader."""

from allrows.errors import InvalidLot, Mismatch
from allrows.readers import is_mark
from allrows.values import is_sequence


def is_lot(reader, value):
    """Whether any value is a sequence of different marks of the reader."""
    if not is_sequence(value) or not all([is_mark(reader, mark) for mark in value]):
        return False
    return len(set(value)) == len(value)


def check_lot(reader, lot):
    if not is_lot(reader, lot):
        raise InvalidLot()


def check_signs(one, other):
    if one.signs != other.signs:
        raise Mismatch()


def check_lots(one, lot, other, others):
    """The errors of functions with two readers and a lot for each of them."""
    check_lot(one, lot)
    check_lot(other, others)
    check_signs(one, other)


def flags_of(reader, lot):
    """For each mark whether it is in the lot."""
    return [mark in lot for mark in reader.marks]
