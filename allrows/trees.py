"""Trees: papers that show that a saying holds for all rows, or that it does not."""

from allrows.judging import judge_of
from allrows.sayings import Saying


def tree_for(saying):
    """Some tree that shows that the saying holds for all rows, or None."""
    return _tree(saying, True)


def tree_against(saying):
    """Some tree that shows that the saying does not hold for all rows, or None."""
    return _tree(saying, False)


def tree_for_holds(saying, value):
    """Whether any value is a tree for the saying."""
    return _closed_judge(saying).is_tree_at({}, True, value)


def tree_against_holds(saying, value):
    """Whether any value is a tree against the saying."""
    return _closed_judge(saying).is_tree_at({}, False, value)


def _tree(saying, is_holding):
    judge = _closed_judge(saying)
    return judge.tree_at({}, is_holding) if judge.holds_at({}) == is_holding else None


def _closed_judge(saying):
    """The judge of the saying with all its free names bound, the first one outside."""
    for name in reversed(list(saying.names)):
        saying = Saying(saying.house, ("all", name, saying))
    return judge_of(saying, {})
