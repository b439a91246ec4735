"""Slopes: how fast worths grow with the rows, and rings by which they grow without end."""

from math import gcd

from allrows.papers import is_paper, made_paper
from allrows.posts import LEVEL, Climb
from allrows.sums import worth
from allrows.values import is_row, is_rows, is_tuple_of
from allrows.weighed import Weighed
from allrows.weighing import Weighing


def rate(total, saying):
    """The least fraction by which worths can grow for each sign, None if only finitely many rows are met."""
    told = None
    for posts in Weighed(total, saying).posts.values():
        told = _greatest_mean(posts, told)
    return told


def _greatest_mean(posts, mean):
    """The greatest mean of the steps of a ring, or the told one, if this is not less."""
    steps = [way[2] for ways in posts.outgoing for way in ways]
    numbers = list(range(len(posts.listed)))
    # with a slope below all steps each ring climbs
    slope = (min(steps, default=0) - 1, 1) if mean is None else mean
    loop = Climb(posts.outgoing, numbers, slope).loop
    while loop is not None:
        gained = sum([way[2] for way in loop])
        shared = gcd(gained, len(loop))
        mean = (gained // shared, len(loop) // shared)
        loop = Climb(posts.outgoing, numbers, mean).loop
    return mean


def slopes(total, saying, slope):
    """Some slope paper for a fraction, or None."""
    weighed = Weighed(total, saying)
    climbs = weighed.climbs(slope)
    return made_paper(weighed, climbs) if weighed.loop_among(climbs) is None else None


def slopes_hold(total, saying, slope, value):
    """Whether any value is a slope paper for a fraction."""
    return is_paper(Weighing(total, saying), value, slope, None)


def ring(total, saying):
    """Some ring that holds, or None."""
    weighed = Weighed(total, saying)
    loop = weighed.loop_among(weighed.climbs(LEVEL))
    return None if loop is None else _ring_of_loop(weighed, loop)


def _ring_of_loop(weighed, loop):
    name, ways = loop
    begin = ways[0][0]
    behind, end = weighed.posts[name].way_on(begin)
    met = [numbers for numbers, besides in weighed.choices if numbers[name] == end][0]
    others = [(own, weighed.least_row(own, number)) for own, number in met.items() if own != name]
    middle = "".join([sign for source, sign, step in ways])
    return (name, weighed.least_row(name, begin), middle, behind, tuple(sorted(others)))


def ring_holds(total, saying, value):
    """Whether any value is a ring that holds."""
    weighing = Weighing(total, saying)
    if not _is_ring(weighing, value):
        return False
    name, ahead, middle, behind, others = value
    rows = dict(others)
    rows[name] = ahead + middle + behind
    points = {own: scale.placing.placed_row(rows[own]) for own, scale in weighing.scales.items()}
    scale = weighing.scales[name]
    begin = scale.placing.placed_row(ahead)
    if not weighing.is_met(points) or scale.placing.placed_row(ahead + middle) != begin:
        return False
    entering = tuple(weighing.entered(points)[0].get(name, []))
    for sign in behind[::-1]:
        entering = scale.came_of(entering, sign)
    # if the middle comes round, this is what each further one adds to the worth
    came, gained = _gone_through(scale, begin, middle, entering)
    return came == entering and gained > 0


def _gone_through(scale, point, row, entering):
    """The entering that comes of one by a row behind a point, and what the row gains there."""
    points = []
    for sign in row:
        points.append(point)
        point = scale.placing.step(point, scale.signs.index(sign))
    gained = 0
    for ahead, sign in reversed(list(zip(points, row))):
        gained += scale.gained_by(ahead, entering, sign)
        entering = scale.came_of(entering, sign)
    return (entering, gained)


def _is_ring(weighing, value):
    """Whether any value has the form of a ring."""
    signs = weighing.saying.house.signs
    if not is_tuple_of(value, 5) or not isinstance(value[0], str) or value[0] not in weighing.scales:
        return False
    if not is_rows(value[1:4], signs) or value[2] == "":
        return False
    names = [name for name in weighing.scales if name != value[0]]
    if not is_tuple_of(value[4], len(names)):
        return False
    return all([_is_row_of_name(pair, name, signs) for pair, name in zip(value[4], names)])


def _is_row_of_name(value, name, signs):
    return is_tuple_of(value, 2) and value[0] == name and is_row(value[1], signs)


def rows_above(total, saying, bound):
    """Some rows that are met and have a worth above the bound, or None."""
    weighed = Weighed(total, saying)
    climbs = weighed.climbs(LEVEL)
    loop = weighed.loop_among(climbs)
    if loop is None:
        greatest, choice = weighed.greatest(climbs, 1)
        return None if choice is None or greatest <= bound else weighed.rows_of(climbs, choice)
    name, ahead, middle, behind, others = _ring_of_loop(weighed, loop)
    rows = dict(others)
    rows[name] = ahead + middle + behind
    once = worth(saying.house, total, rows)
    gained = sum([way[2] for way in loop[1]])
    # each further middle gains as much
    further = max(0, (bound - once) // gained + 1)
    rows[name] = ahead + middle * (further + 1) + behind
    return tuple([(own, rows[own]) for own in sorted(list(rows))])
