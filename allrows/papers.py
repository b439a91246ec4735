"""Papers: tables of posts with heights, for each name of a sum and a saying."""

from allrows.choosing import all_choices
from allrows.sights import is_point
from allrows.values import is_integer, is_tuple_of


def made_paper(weighed, climbs):
    """The paper of the greatest gains of all wanted posts, None for the other posts."""
    told = []
    for name, scale in weighed.scales.items():
        gains = climbs[name].gains
        numbers = weighed.posts[name].numbers
        enterings = [(entering, _marked_entering(scale, entering)) for entering in scale.enterings()]
        table = []
        for number, placed in enumerate(scale.listed):
            point = scale.placing.marked(placed)
            table.extend([(point, marks, gains.get(numbers.get((number, entering)))) for entering, marks in enterings])
        told.append((name, tuple(table)))
    return tuple(told)


def _marked_entering(scale, entering):
    return tuple([scale.placing.marks[place] for place in entering])


def is_paper(weighing, value, slope, bound):
    """Whether any value is a paper for the sloping steps; a bound of None sets no bound to the heights."""
    if not is_tuple_of(value, len(weighing.scales)):
        return False
    tables = {}
    for scale, pair in zip(weighing.scales.values(), value):
        if not is_tuple_of(pair, 2) or pair[0] != scale.name:
            return False
        table = _placed_table(scale, pair[1])
        if table is None or not _is_closed(scale, table, slope):
            return False
        tables[scale.name] = table
    return _are_choices_bound(weighing, tables, bound)


def _placed_table(scale, value):
    """The heights of a table, by placed points and the places of enterings; None if a value is no table."""
    if not isinstance(value, tuple):
        return None
    marks = scale.placing.marks
    places = [{marks[place]: place for place in range(begin, end)} for begin, end in scale.spans]
    table = {}
    looked_at = []
    point = ()
    for triple in value:
        if not is_tuple_of(triple, 3) or (triple[2] is not None and not is_integer(triple[2])):
            return None
        # triples with one point mostly stand together: it is looked at once
        if looked_at != [triple[0]]:
            if not is_point(scale.placing.parts, triple[0]):
                return None
            looked_at = [triple[0]]
            point = scale.placing.placed(triple[0])
        entering = _placed_entering(places, triple[1])
        # each post stands there once at most
        if entering is None or (point, entering) in table:
            return None
        table[(point, entering)] = triple[2]
    return table


def _placed_entering(places, value):
    """The places of an entering, None if a value is none; places has for each occurrence those of its marks."""
    if not is_tuple_of(value, len(places)):
        return None
    entering = []
    for place_of, mark in zip(places, value):
        if not isinstance(mark, str) or mark not in place_of:
            return None
        entering.append(place_of[mark])
    return tuple(entering)


def _is_closed(scale, table, slope):
    """Whether a table has the empty row's posts, and with each post all to which it leads, high enough."""
    begin = scale.placing.at_first
    if not all([_is_at_least(table, (begin, entering), 0) for entering in scale.enterings()]):
        return False
    targets = {}
    laters = {}
    for (point, entering), height in table.items():
        if point not in targets:
            targets[point] = [scale.placing.step(point, at) for at in range(len(scale.signs))]
        if entering not in laters:
            laters[entering] = [scale.enterings_behind(entering, sign) for sign in scale.signs]
        for sign, target, behind in zip(scale.signs, targets[point], laters[entering]):
            for later in behind:
                least = None
                if height is not None:
                    least = height + scale.gained_by(point, later, sign) * slope[1] - slope[0]
                if not _is_at_least(table, (target, later), least):
                    return False
    return True


def _is_at_least(table, post, least):
    """Whether a post is in a table, with None, or with at least this height; None is above all heights."""
    if post not in table:
        return False
    height = table[post]
    return height is None or (least is not None and height >= least)


def _are_choices_bound(weighing, tables, bound):
    """Whether for all choices that are met, and whose posts are in the tables, the heights are within the bound."""
    listed = {name: _points_of_table(table) for name, table in tables.items()}
    all_others = all_choices([listed[name] for name in weighing.others])
    greatest = {}
    for choice in all_choices([listed[name] for name in weighing.added]):
        points = dict(zip(weighing.added, choice))
        met = weighing.met_others(points, all_others)
        if not met:
            continue
        entering, besides = weighing.entered(points)
        posts = {name: (point, tuple(entering[name])) for name, point in points.items()}
        if not all([post in tables[name] for name, post in posts.items()]):
            continue
        shared = weighing.heard_of(points)
        if shared not in greatest:
            greatest[shared] = _greatest_of_others(weighing, tables, met)
        heights = [tables[name][post] for name, post in posts.items()] + [greatest[shared]]
        if None in heights or (bound is not None and sum(heights) + besides > bound):
            return False
    return True


def _points_of_table(table):
    return list({post[0]: True for post in table})


def _greatest_of_others(weighing, tables, told):
    """The greatest sum of heights of points of the names that only the saying has, None if one of these is None."""
    sums = []
    for others in told:
        heights = [tables[name][(point, ())] for name, point in zip(weighing.others, others)]
        if None in heights:
            return None
        sums.append(sum(heights))
    return max(sums)
