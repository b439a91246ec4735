"""Heights: the greatest worths of sums for rows that are met, and papers for them."""

from allrows.papers import is_paper, made_paper
from allrows.posts import LEVEL, Climb
from allrows.weighed import Weighed
from allrows.weighing import Weighing


def most(total, saying):
    """The greatest worth of rows that are met, "endless" if there is no greatest one, "none" if no rows are met."""
    weighed = Weighed(total, saying)
    return _greatest(weighed, _climbs(weighed))[0]


def least(total, saying):
    """The least worth of rows that are met, "endless" if there is no least one, "none" if no rows are met."""
    told = most(total.scaled(-1), saying)
    return told if isinstance(told, str) else -told


def best_rows(total, saying):
    """Some rows that are met and have the greatest worth, or None."""
    weighed = Weighed(total, saying)
    climbs = _climbs(weighed)
    choice = _greatest(weighed, climbs)[1]
    if choice is None:
        return None
    return tuple([(name, climb.row_to(choice[0][name])) for name, climb in climbs.items()])


def _climbs(weighed):
    return {name: Climb(posts, posts.begins(), LEVEL) for name, posts in weighed.posts.items()}


def _greatest(weighed, climbs):
    """The greatest worth and a choice that has it, None if there is none."""
    if not weighed.choices:
        return ("none", None)
    if any([climb.loop is not None for climb in climbs.values()]):
        return ("endless", None)
    worths = []
    for posts, besides in weighed.choices:
        worths.append(besides + sum([climbs[name].gains[post] for name, post in posts.items()]))
    return (max(worths), weighed.choices[worths.index(max(worths))])


def clear(total, saying):
    """The one worth of all rows that are met, or None."""
    greatest = most(total, saying)
    if isinstance(greatest, str) or least(total, saying) != greatest:
        return None
    return greatest


def is_constant(total, saying):
    """Whether all rows that are met have one worth."""
    return most(total, saying) == "none" or clear(total, saying) is not None


def same_worth(one, other, saying):
    """Whether two sums have the same worth for all rows that are met."""
    rest = one + other.scaled(-1)
    return most(rest, saying) == "none" or clear(rest, saying) == 0


def at_most(total, saying, bound):
    """Whether no rows that are met have a worth above the bound."""
    told = most(total, saying)
    return told == "none" or (told != "endless" and told <= bound)


def heights(total, saying, bound):
    """Some paper of heights for the bound, or None."""
    weighed = Weighed(total, saying)
    climbs = _climbs(weighed)
    told = _greatest(weighed, climbs)[0]
    if told == "endless" or (told != "none" and told > bound):
        return None
    return made_paper(weighed, climbs)


def heights_hold(total, saying, bound, value):
    """Whether any value is a paper of heights for the bound."""
    return is_paper(Weighing(total, saying), value, LEVEL, bound)
