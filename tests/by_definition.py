"""Sums with sayings as the document describes them, told without care for time: rows that are met, and papers."""

from itertools import product

from allrows.deciding import sight_of, truth
from allrows.sights import Sight
from allrows.sums import Sum, worth
from support import all_rows, is_small, random_saying, random_house, random_term, rows_to, tried


def names_of(total, saying):
    return sorted(set(total.names) | set(saying.names))


def occurrences(total, saying, name):
    """The quadruples (factor, count, change, is_back) of all parts with a name."""
    return [(factor, saying.house.count_of(count), part[3], part[2]) for factor, count, term in total.parts for part in term.parts
            if part[:2] == ("name", name)]


def sight_for(total, saying, name):
    heard = sight_of(saying, name)
    parts = () if heard is None else heard.parts
    return Sight(saying.house.signs, parts + tuple((count.reader, change, is_back) for _, count, change, is_back in occurrences(total, saying, name)))


def word_of(sign, change, is_back):
    row = sign if change is None else change.of(sign)
    return row[::-1] if is_back else row


def came_of(told, entering, sign):
    return tuple(count.reader.led(mark, word_of(sign, change, is_back)) if is_back else mark
                 for (_, count, change, is_back), mark in zip(told, entering))


def step_of(told, point, entering, sign):
    """What is added by a sign behind a row with this point, entered so behind the sign."""
    acts = point[len(point) - len(told):]
    added = 0
    for (factor, count, change, is_back), mark, act in zip(told, entering, acts):
        begin = mark if is_back else act[count.reader.marks.index(mark)]
        added += factor * count.led(begin, word_of(sign, change, is_back))[1]
    return added


def true_entering(total, saying, points):
    """The true enterings of all names, and what is added besides."""
    entering = {name: () for name in points}
    besides = total.number
    for factor, name, term in total.parts:
        count = saying.house.count_of(name)
        mark = count.reader.first
        for part in term.parts:
            if part[0] == "row":
                mark, amount = count.led(mark, part[1])
                besides += factor * amount
            else:
                own = points[part[1]]
                at = len(own) - len(occurrences(total, saying, part[1])) + len(entering[part[1]])
                entering[part[1]] += (mark,)
                mark = own[at][count.reader.marks.index(mark)]
        besides += factor * count.ends[count.reader.marks.index(mark)]
    return entering, besides


def is_closed(total, saying, name, table, slope):
    told, sight = occurrences(total, saying, name), sight_for(total, saying, name)
    heights = {(point, entering): height for point, entering, height in table}
    enterings = list(product(*[count.reader.marks for _, count, _, _ in told]))
    for entering in enterings:
        if (sight.begin(), entering) not in heights:
            return False
        height = heights[(sight.begin(), entering)]
        if height is not None and height < 0:
            return False
    for (point, entering), height in heights.items():
        for sign in sight.signs:
            for later in enterings:
                if came_of(told, later, sign) != entering:
                    continue
                post = (sight.step(point, sign), later)
                if post not in heights:
                    return False
                least = None if height is None else height + step_of(told, point, later, sign) * slope[1] - slope[0]
                if heights[post] is not None and (least is None or heights[post] < least):
                    return False
    return True


def is_paper(total, saying, value, slope=(0, 1), bound=None):
    """Whether a tuple of pairs of a name and a table of the right form is a paper."""
    names = names_of(total, saying)
    if [name for name, _ in value] != names:
        return False
    tables = {name: {(point, entering): height for point, entering, height in table} for name, table in value}
    if any(len(tables[name]) < len(table) for name, table in value):
        return False
    if not all(is_closed(total, saying, name, table, slope) for name, table in value):
        return False
    sights = {name: sight_for(total, saying, name) for name in names}
    for choice in product(*[sorted({point for point, _ in tables[name]}) for name in names]):
        points = dict(zip(names, choice))
        if not truth(saying, sights, points):
            continue
        entering, besides = true_entering(total, saying, points)
        posts = {name: (points[name], entering[name]) for name in names}
        if all(posts[name] in tables[name] for name in names):
            heights = [tables[name][posts[name]] for name in names]
            if None in heights or (bound is not None and sum(heights) + besides > bound):
                return False
    return True


def worths_met(total, saying, most):
    """The pairs of a worth and rows, for all rows to a length that are met."""
    names = names_of(total, saying)
    rows_to_try = all_rows(names, [rows_to(saying.house.signs, most)] * len(names))
    return [(worth(saying.house, total, rows), rows) for rows in rows_to_try if tried(saying, rows)]


def random_total(chance, signs, names=("xx", "yy"), most=2):
    parts = [(chance.choice([-2, -1, 1, 1, 3]), chance.choice(["size", "peak"]), random_term(chance, signs, names, 2)) for _ in range(chance.randint(0, most))]
    return Sum(parts, chance.choice([0, 0, -4, 7]))


def weighings(chance, many, most=25, names=("xx", "yy"), posts=200):
    """Pairs of a small sum and a saying."""
    told = []
    while len(told) < many:
        house = random_house(chance, chance.choice(("a", "ab", "ab")), chance.choice((1, 2, 2, 3)), 2)
        saying = random_saying(chance, house, names + ("zz",) if chance.random() < 0.3 else names, chance.randint(0, 2), 1)
        total = random_total(chance, house.signs, names[:chance.randint(1, len(names))])
        if not is_small(saying, most):
            continue
        size = 1
        number = 0
        for name in names_of(total, saying):
            points = len(sight_for(total, saying, name).points())
            size *= points
            enterings = 1
            for _, count, _, _ in occurrences(total, saying, name):
                enterings *= len(count.reader.marks)
            number = max(number, points * enterings)
        if size <= most * 4 and number <= posts:
            told.append((total, saying))
    return told
