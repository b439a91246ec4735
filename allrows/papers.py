"""Papers: tables of posts with heights, for each name of a sum and a saying."""

from allrows.choosing import all_choices
from allrows.readers import is_mark
from allrows.sights import is_point
from allrows.values import is_integer, is_tuple_of


def made_paper(weighed, climbs):
    """The paper of the greatest gains of all wanted posts, None for the other posts."""
    told = []
    for name, scale in weighed.scales.items():
        gains = climbs[name].gains
        table = []
        for number, point in enumerate(scale.listed):
            table.extend([(point, entering, gains.get((number, entering))) for entering in scale.enterings()])
        told.append((name, tuple(table)))
    return tuple(told)


def is_paper(weighing, value, slope, bound):
    """Whether any value is a paper for the sloping steps; a bound of None sets no bound to the heights."""
    if not is_tuple_of(value, len(weighing.scales)):
        return False
    tables = {}
    for scale, pair in zip(weighing.scales.values(), value):
        if not is_tuple_of(pair, 2) or pair[0] != scale.name:
            return False
        if not _is_table(scale, pair[1]):
            return False
        tables[scale.name] = {(point, entering): height for point, entering, height in pair[1]}
        if not _is_closed(scale, tables[scale.name], slope):
            return False
    return _are_choices_bound(weighing, tables, bound)


def _is_table(scale, value):
    """Whether any value is a tuple of posts with heights, each post once."""
    if not isinstance(value, tuple) or not all([_is_row_of_table(scale, triple) for triple in value]):
        return False
    return len(set([(triple[0], triple[1]) for triple in value])) == len(value)


def _is_row_of_table(scale, value):
    if not is_tuple_of(value, 3) or not is_point(scale.sight, value[0]):
        return False
    if not is_tuple_of(value[1], len(scale.occurrences)):
        return False
    if not all([is_mark(one.reader, mark) for one, mark in zip(scale.occurrences, value[1])]):
        return False
    return value[2] is None or is_integer(value[2])


def _is_closed(scale, table, slope):
    begin = scale.sight.begin()
    at_begin = [height for (point, entering), height in table.items() if point == begin]
    many = 1
    for one in scale.occurrences:
        many *= len(one.reader.marks)
    # each post stands there once at most, so this many are all
    if len(at_begin) != many or not all([height is None or height >= 0 for height in at_begin]):
        return False
    steps = {}
    for post in table:
        if post[0] not in steps:
            steps[post[0]] = [(sign, scale.sight.step(post[0], sign)) for sign in scale.sight.signs]
        for sign, target in steps[post[0]]:
            if not _is_kept(scale, table, slope, post, sign, target):
                return False
    return True


def _is_kept(scale, table, slope, post, sign, target):
    """Whether all posts to which a post leads by a sign are in the table, and high enough."""
    point, entering = post
    height = table[post]
    for later in all_choices(_later_marks(scale, entering, sign)):
        if (target, later) not in table:
            return False
        reached = table[(target, later)]
        if reached is None:
            continue
        step = scale.gained_by(point, later, sign) * slope[1] - slope[0]
        if height is None or reached < height + step:
            return False
    return True


def _later_marks(scale, entering, sign):
    """For each occurrence the marks of enterings of which this one comes."""
    lists = []
    for one, mark in zip(scale.occurrences, entering):
        if one.is_back:
            lists.append([own for own in one.reader.marks if one.ways[sign][own][0] == mark])
        else:
            lists.append([mark])
    return lists


def _are_choices_bound(weighing, tables, bound):
    """Whether for all choices that are met, and whose posts are in the tables, the heights are within the bound."""
    listed = {name: _points_of_table(table) for name, table in tables.items()}
    heard = {name: weighing.scales[name].heard_points(listed[name]) for name in weighing.saying.names}
    met = weighing.met_others(heard)
    greatest = {shared: _greatest_of_others(weighing, tables, told) for shared, told in met.items()}
    for choice in all_choices([listed[name] for name in weighing.added]):
        points = dict(zip(weighing.added, choice))
        shared = weighing.heard_of(points)
        if shared not in met:
            continue
        entering, besides = weighing.entered(points)
        posts = {name: (point, entering[name]) for name, point in points.items()}
        if not all([post in tables[name] for name, post in posts.items()]):
            continue
        heights = [tables[name][post] for name, post in posts.items()] + [greatest[shared]]
        if None in heights or (bound is not None and sum(heights) + besides > bound):
            return False
    return True


def _points_of_table(table):
    return list({post[0]: True for post in table})


def _greatest_of_others(weighing, tables, told):
    """The greatest sum of heights of points of the names that only the saying has, None if one of these is None."""
    sums = []
    for others in told:
        heights = [tables[name][(point, ())] for name, point in zip(weighing.others, others)]
        if None in heights:
            return None
        sums.append(sum(heights))
    return max(sums)
