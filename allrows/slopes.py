"""Slopes: how fast worths grow with the rows, and rings by which they grow without end."""

from math import gcd

from allrows.deciding import true_at
from allrows.papers import is_paper, made_paper
from allrows.posts import LEVEL, Climb
from allrows.sums import worth
from allrows.values import is_row, is_rows, is_tuple_of
from allrows.weighed import Weighed
from allrows.weighing import Weighing


def rate(total, saying):
    """The least fraction by which worths can grow for each sign, None if only finitely many rows are met."""
    told = None
    for posts in Weighed(total, saying).posts.values():
        told = _greatest_mean(posts, told)
    return told


def _greatest_mean(posts, mean):
    """The greatest mean of the steps of a ring, or the told one, if this is not less."""
    steps = [way[2] for ways_in in posts.incoming.values() for way in ways_in]
    # with a slope below all steps each ring climbs
    slope = (min(steps, default=0) - 1, 1) if mean is None else mean
    ways = Climb(posts, list(posts.incoming), slope).loop
    while ways is not None:
        gained = sum([way[2] for way in ways])
        shared = gcd(gained, len(ways))
        mean = (gained // shared, len(ways) // shared)
        ways = Climb(posts, list(posts.incoming), mean).loop
    return mean


def slopes(total, saying, slope):
    """Some slope paper for a fraction, or None."""
    weighed = Weighed(total, saying)
    climbs = weighed.climbs(slope)
    return made_paper(weighed, climbs) if weighed.loop_among(climbs) is None else None


def slopes_hold(total, saying, slope, value):
    """Whether any value is a slope paper for a fraction."""
    return is_paper(Weighing(total, saying), value, slope, None)


def ring(total, saying):
    """Some ring that holds, or None."""
    weighed = Weighed(total, saying)
    loop = weighed.loop_among(weighed.climbs(LEVEL))
    return None if loop is None else _ring_of_loop(weighed, loop)


def _ring_of_loop(weighed, loop):
    name, ways = loop
    begin = ways[0][0]
    behind, end = weighed.posts[name].way_on(begin)
    met = [posts for posts, besides in weighed.choices if posts[name] == end][0]
    others = [(own, weighed.scales[own].least_rows[post[0]]) for own, post in met.items() if own != name]
    middle = "".join([sign for source, sign, step in ways])
    return (name, weighed.scales[name].least_rows[begin[0]], middle, behind, tuple(sorted(others)))


def ring_holds(total, saying, value):
    """Whether any value is a ring that holds."""
    weighing = Weighing(total, saying)
    if not _is_ring(weighing, value):
        return False
    name, ahead, middle, behind, others = value
    rows = dict(others)
    rows[name] = ahead + middle + behind
    if not true_at(saying, rows) or not _comes_round(weighing, name, ahead, middle, behind, rows):
        return False
    once = worth(saying.house, total, rows)
    rows[name] = ahead + middle + middle + behind
    return worth(saying.house, total, rows) > once


def _is_ring(weighing, value):
    """Whether any value has the form of a ring."""
    signs = weighing.saying.house.signs
    if not is_tuple_of(value, 5) or not isinstance(value[0], str) or value[0] not in weighing.scales:
        return False
    if not is_rows(value[1:4], signs) or value[2] == "":
        return False
    names = [name for name in weighing.scales if name != value[0]]
    if not is_tuple_of(value[4], len(names)):
        return False
    return all([_is_row_of_name(pair, name, signs) for pair, name in zip(value[4], names)])


def _is_row_of_name(value, name, signs):
    return is_tuple_of(value, 2) and value[0] == name and is_row(value[1], signs)


def _comes_round(weighing, name, ahead, middle, behind, rows):
    """Whether point and entering ahead of the middle of a row are those behind it."""
    scale = weighing.scales[name]
    if scale.placing.placed_row(ahead) != scale.placing.placed_row(ahead + middle):
        return False
    points = {own: weighing.scales[own].placing.placed_row(row) for own, row in rows.items()}
    entering = weighing.entered(points)[0].get(name, ())
    for sign in behind[::-1]:
        entering = scale.came_of(entering, sign)
    again = entering
    for sign in middle[::-1]:
        again = scale.came_of(again, sign)
    return again == entering


def rows_above(total, saying, bound):
    """Some rows that are met and have a worth above the bound, or None."""
    weighed = Weighed(total, saying)
    climbs = weighed.climbs(LEVEL)
    loop = weighed.loop_among(climbs)
    if loop is None:
        greatest, choice = weighed.greatest(climbs, 1)
        return None if choice is None or greatest <= bound else weighed.rows_of(climbs, choice)
    name, ahead, middle, behind, others = _ring_of_loop(weighed, loop)
    rows = dict(others)
    rows[name] = ahead + middle + behind
    once = worth(saying.house, total, rows)
    gained = sum([way[2] for way in loop[1]])
    # each further middle gains as much
    further = max(0, (bound - once) // gained + 1)
    rows[name] = ahead + middle * (further + 1) + behind
    return tuple([(own, rows[own]) for own in sorted(list(rows))])
