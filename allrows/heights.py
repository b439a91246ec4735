"""Heights: the greatest worths of sums for rows that are met, and papers for them."""

from allrows.papers import is_paper, made_paper
from allrows.posts import LEVEL
from allrows.weighed import Weighed
from allrows.weighing import Weighing


def most(total, saying):
    """The greatest worth of rows that are met, "endless" if there is no greatest one, "none" if no rows are met."""
    weighed = Weighed(total, saying)
    return weighed.greatest(weighed.climbs(LEVEL), 1)[0]


def least(total, saying):
    """The least worth of rows that are met, "endless" if there is no least one, "none" if no rows are met."""
    return _least_worth(Weighed(total, saying))


def _least_worth(weighed):
    # the greatest worth of the contrary, whose steps are those of the sum times -1
    told = weighed.greatest(weighed.climbs((0, -1)), -1)[0]
    return told if isinstance(told, str) else -told


def best_rows(total, saying):
    """Some rows that are met and have the greatest worth, or None."""
    weighed = Weighed(total, saying)
    climbs = weighed.climbs(LEVEL)
    choice = weighed.greatest(climbs, 1)[1]
    return None if choice is None else weighed.rows_of(climbs, choice)


def clear(total, saying):
    """The one worth of all rows that are met, or None."""
    told = _one_worth(total, saying)
    return None if isinstance(told, str) else told


def _one_worth(total, saying):
    """The one worth of all rows that are met, "none" if no rows are, or "several"."""
    weighed = Weighed(total, saying)
    greatest = weighed.greatest(weighed.climbs(LEVEL), 1)[0]
    if greatest == "none":
        return "none"
    return greatest if greatest != "endless" and _least_worth(weighed) == greatest else "several"


def is_constant(total, saying):
    """Whether all rows that are met have one worth."""
    return _one_worth(total, saying) != "several"


def same_worth(one, other, saying):
    """Whether two sums have the same worth for all rows that are met."""
    return _one_worth(one + other.scaled(-1), saying) in (0, "none")


def at_most(total, saying, bound):
    """Whether no rows that are met have a worth above the bound."""
    told = most(total, saying)
    return told == "none" or (told != "endless" and told <= bound)


def heights(total, saying, bound):
    """Some paper of heights for the bound, or None."""
    weighed = Weighed(total, saying)
    climbs = weighed.climbs(LEVEL)
    told = weighed.greatest(climbs, 1)[0]
    if told == "endless" or (told != "none" and told > bound):
        return None
    return made_paper(weighed, climbs)


def heights_hold(total, saying, bound, value):
    """Whether any value is a paper of heights for the bound."""
    return is_paper(Weighing(total, saying), value, LEVEL, bound)
