"""Claims: sayings, and bounds of sums where sayings hold. And deductions of them, as far as their form goes."""

from allrows.deciding import fails
from allrows.heights import heights
from allrows.sayings import Saying
from allrows.slopes import rows_above
from allrows.sums import Sum
from allrows.terms import is_over
from allrows.trees import tree_for
from allrows.values import is_integer, is_tuple_of


def is_bound(claim):
    return isinstance(claim, tuple)


def house_of(claim):
    return claim[3].house if is_bound(claim) else claim.house


def is_claim(value, house):
    """Whether any value is a claim of the house."""
    if isinstance(value, Saying):
        return value.house == house
    if not is_tuple_of(value, 4) or value[0] != "bound" or not isinstance(value[1], Sum) or not is_integer(value[2]):
        return False
    return isinstance(value[3], Saying) and value[3].house == house and _is_sum_of(value[1], house)


def _is_sum_of(total, house):
    """Whether the house has the counts of a sum, whose terms are over its signs."""
    counts = [name for name, count in house.counts]
    return all([name in counts and is_over(term, house.signs) for factor, name, term in total.parts])


def is_deduction(value, house):
    """Whether any value is a deduction of the house: whether its lines are right is left aside."""
    if not isinstance(value, tuple) or len(value) == 0:
        return False
    return all([is_tuple_of(line, 2) and is_claim(line[0], house) for line in value])


def failing_rows(claim):
    """Rows at which a claim fails, the least ones of a saying, None if it is true."""
    if is_bound(claim):
        return rows_above(claim[1], claim[3], claim[2])
    return fails(claim)


def shown_by_itself(claim):
    """Some why that shows a claim without other lines, None if it is not true."""
    if is_bound(claim):
        paper = heights(claim[1], claim[3], claim[2])
        return None if paper is None else ("heights", paper)
    tree = tree_for(claim)
    return None if tree is None else ("tree", tree)
