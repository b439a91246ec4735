"""Papers: tables of posts with heights, for each name of a sum and a saying."""

from allrows.choosing import all_choices
from allrows.readers import is_mark
from allrows.sights import is_point
from allrows.values import is_integer, is_tuple_of


def made_paper(weighed, climbs):
    """The paper of the greatest gains of all wanted posts, None for the other posts."""
    told = []
    for name, scale in weighed.scales.items():
        gains = climbs[name].gains
        enterings = [(entering, _marked_entering(scale, entering)) for entering in scale.enterings()]
        table = []
        for number, placed in enumerate(scale.listed):
            point = scale.placing.marked(placed)
            table.extend([(point, marks, gains.get((number, entering))) for entering, marks in enterings])
        told.append((name, tuple(table)))
    return tuple(told)


def _marked_entering(scale, entering):
    return tuple([scale.placing.marks[place] for place in entering])


def is_paper(weighing, value, slope, bound):
    """Whether any value is a paper for the sloping steps; a bound of None sets no bound to the heights."""
    if not is_tuple_of(value, len(weighing.scales)):
        return False
    tables = {}
    for scale, pair in zip(weighing.scales.values(), value):
        if not is_tuple_of(pair, 2) or pair[0] != scale.name:
            return False
        if not _is_table(scale, pair[1]):
            return False
        tables[scale.name] = _placed_table(scale, pair[1])
        # each post stands there once at most
        if len(tables[scale.name]) < len(pair[1]) or not _is_closed(scale, tables[scale.name], slope):
            return False
    return _are_choices_bound(weighing, tables, bound)


def _is_table(scale, value):
    """Whether any value is a tuple of triples of a point, an entering, and an integer or None."""
    if not isinstance(value, tuple):
        return False
    looked_at = []
    for triple in value:
        if not is_tuple_of(triple, 3) or not _is_entering(scale, triple[1]):
            return False
        if triple[2] is not None and not is_integer(triple[2]):
            return False
        # triples with one point mostly stand together: it is looked at once
        if looked_at != [triple[0]]:
            if not is_point(scale.sight, triple[0]):
                return False
            looked_at = [triple[0]]
    return True


def _is_entering(scale, value):
    if not is_tuple_of(value, len(scale.occurrences)):
        return False
    return all([is_mark(one.part[0], mark) for one, mark in zip(scale.occurrences, value)])


def _placed_table(scale, table):
    """The heights of a table, by placed points and the places of enterings."""
    points = {}
    heights = {}
    for point, entering, height in table:
        if point not in points:
            points[point] = scale.placing.placed(point)
        places = [
            begin + one.part[0].number_of(mark)
            for (begin, _), one, mark in zip(scale.spans, scale.occurrences, entering)
        ]
        heights[(points[point], tuple(places))] = height
    return heights


def _is_closed(scale, table, slope):
    at_begin = [height for (point, _), height in table.items() if point == scale.placing.at_first]
    many = 1
    for begin, end in scale.spans:
        many *= end - begin
    # each post stands there once at most, so this many are all
    if len(at_begin) != many or not all([height is None or height >= 0 for height in at_begin]):
        return False
    targets = {}
    laters = {}
    for point, entering in table:
        if point not in targets:
            targets[point] = [scale.placing.step(point, at) for at in range(len(scale.sight.signs))]
        if entering not in laters:
            laters[entering] = [scale.enterings_behind(entering, sign) for sign in scale.sight.signs]
        for sign, target, later in zip(scale.sight.signs, targets[point], laters[entering]):
            if not _is_kept(scale, table, slope, (point, entering), sign, [(target, one) for one in later]):
                return False
    return True


def _is_kept(scale, table, slope, post, sign, targets):
    """Whether all posts to which a post leads by a sign are in the table, and high enough."""
    height = table[post]
    for target in targets:
        if target not in table:
            return False
        reached = table[target]
        if reached is None:
            continue
        step = scale.gained_by(post[0], target[1], sign) * slope[1] - slope[0]
        if height is None or reached < height + step:
            return False
    return True


def _are_choices_bound(weighing, tables, bound):
    """Whether for all choices that are met, and whose posts are in the tables, the heights are within the bound."""
    listed = {name: _points_of_table(table) for name, table in tables.items()}
    heard = {name: weighing.scales[name].heard_points(listed[name]) for name in weighing.saying.names}
    met = weighing.met_others(heard)
    greatest = {shared: _greatest_of_others(weighing, tables, told) for shared, told in met.items()}
    for choice in all_choices([listed[name] for name in weighing.added]):
        points = dict(zip(weighing.added, choice))
        shared = weighing.heard_of(points)
        if shared not in met:
            continue
        entering, besides = weighing.entered(points)
        posts = {name: (point, entering[name]) for name, point in points.items()}
        if not all([post in tables[name] for name, post in posts.items()]):
            continue
        heights = [tables[name][post] for name, post in posts.items()] + [greatest[shared]]
        if None in heights or (bound is not None and sum(heights) + besides > bound):
            return False
    return True


def _points_of_table(table):
    return list({post[0]: True for post in table})


def _greatest_of_others(weighing, tables, told):
    """The greatest sum of heights of points of the names that only the saying has, None if one of these is None."""
    sums = []
    for others in told:
        heights = [tables[name][(point, ())] for name, point in zip(weighing.others, others)]
        if None in heights:
            return None
        sums.append(sum(heights))
    return max(sums)
