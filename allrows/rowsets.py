"""The rows that conditions let, in their order, and papers that show that one lets no more than another."""

from allrows.conditions import flags_of_marks, pair_lead
from allrows.lots import check_signs
from allrows.tables import longest_from, number_of_row, row_numbered, ways_by_length
from allrows.values import is_integer, is_tuple_of
from allrows.walks import least_way, walked


def least_let(condition):
    """The least row that is let, or None."""
    flags = flags_of_marks(condition)

    def lead(mark, at):
        return condition.steps[mark][at]

    def is_good(mark):
        return flags[mark]

    return least_way(condition.signs, 0, lead, is_good)


def is_endless(condition):
    """Whether endlessly many rows are let."""
    return longest_from(condition.steps, 0, flags_of_marks(condition)) == "endless"


def many(condition, length):
    """How many rows of a length are let."""
    return ways_by_length(condition.steps, flags_of_marks(condition), length)[length][0]


def kth(condition, number):
    """The row with this number among those that are let, None if there are not so many."""
    return row_numbered(condition.signs, condition.steps, 0, flags_of_marks(condition), number)


def place(condition, row):
    """The number of a row among those that are let, None if it is not let."""
    return number_of_row(condition.signs, condition.steps, 0, flags_of_marks(condition), row)


def parting(one, other):
    """The least row that just one of both conditions lets, or None."""
    check_signs(one, other)
    flags = flags_of_marks(one)
    other_flags = flags_of_marks(other)

    def is_parted(pair):
        return flags[pair[0]] != other_flags[pair[1]]

    return least_way(one.signs, (0, 0), pair_lead(one, other), is_parted)


def within_paper(one, other):
    """Some within paper for two conditions, or None."""
    if not one.within(other):
        return None
    return tuple([pair for pair, row in walked(one.signs, (0, 0), pair_lead(one, other))])


def within_holds(one, other, value):
    """Whether any value is a within paper for two conditions."""
    check_signs(one, other)
    if not isinstance(value, tuple) or not all([_is_pair_of_marks(one, other, pair) for pair in value]):
        return False
    told = {pair: True for pair in value}
    if (0, 0) not in told:
        return False
    if any([mark in one.good and other_mark not in other.good for mark, other_mark in told]):
        return False
    lead = pair_lead(one, other)
    return all([lead(pair, at) in told for pair in told for at in range(len(one.signs))])


def _is_pair_of_marks(one, other, value):
    return is_tuple_of(value, 2) and _is_mark(one, value[0]) and _is_mark(other, value[1])


def _is_mark(condition, value):
    return is_integer(value) and 0 <= value < len(condition)
