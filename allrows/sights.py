"""Sights: what several readers see of one row, forwards or backwards, as it is or through a change."""

from allrows.acts import act, act_then, first_act
from allrows.changes import Change
from allrows.errors import InvalidSight
from allrows.readers import Reader, is_mark
from allrows.values import is_sequence, is_signs, is_tuple_of
from allrows.walks import least_way, walked


class Sight:
    """Parts that see a row: a reader, the change through which it sees, and whether it reads backwards."""

    def __init__(self, signs, parts):
        if not is_signs(signs):
            raise InvalidSight("signs")
        if not is_sequence(parts) or len(parts) == 0 or not all([_is_part(part, signs) for part in parts]):
            raise InvalidSight("parts")
        self.signs = signs
        self.parts = tuple(parts)
        self._points = {sign: self.point_of(sign) for sign in signs}

    def begin(self):
        """The point of the empty row."""
        return tuple([first_act(part[0]) for part in self.parts])

    def step(self, point, sign):
        """The point of the row with one sign more at its end."""
        return self.put_behind(point, self._points[sign])

    def point_of(self, row):
        return tuple([act(part[0], _row_of_part(part, row)) for part in self.parts])

    def put_behind(self, point, other):
        """The point of a row with the first point and one with the other point behind it."""
        return tuple([_put_together(part, one, more) for part, one, more in zip(self.parts, point, other)])

    def points(self):
        """All points that rows have, each with its least row."""
        return tuple(walked(self.signs, self.begin(), _point_lead(self)))

    def __len__(self):
        return len(self.parts)

    def __eq__(self, other):
        return isinstance(other, Sight) and self.signs == other.signs and self.parts == other.parts


def _is_part(value, signs):
    if not is_tuple_of(value, 3) or not isinstance(value[0], Reader) or not isinstance(value[2], bool):
        return False
    if value[1] is not None and (not isinstance(value[1], Change) or value[1].signs != signs):
        return False
    return value[0].signs == signs


def _row_of_part(part, row):
    changed = row if part[1] is None else part[1].of(row)
    return changed[::-1] if part[2] else changed


def _put_together(part, one, other):
    """The act of a part for two rows put together: turned about, the later one comes first."""
    if part[2]:
        return act_then(part[0], other, one)
    return act_then(part[0], one, other)


def _point_lead(sight):

    def lead(point, at):
        return sight.step(point, sight.signs[at])

    return lead


def row_with(sight, point):
    """The least row with a point, None if no row has it."""

    def is_it(other):
        return other == point

    return least_way(sight.signs, sight.begin(), _point_lead(sight), is_it)


def lot_closed(sight, value):
    """Whether any value is a tuple of points with the first one, and with each one those of all signs."""
    if not isinstance(value, tuple) or not all([is_point(sight, point) for point in value]):
        return False
    told = {point: True for point in value}
    if sight.begin() not in told:
        return False
    return all([sight.step(point, sign) in told for point in told for sign in sight.signs])


def is_point(sight, value):
    if not is_tuple_of(value, len(sight)):
        return False
    return all([_is_act(part[0], one) for part, one in zip(sight.parts, value)])


def _is_act(reader, value):
    return is_tuple_of(value, len(reader.marks)) and all([is_mark(reader, mark) for mark in value])


def many(sight, point, length):
    """How many rows of this length have a point."""
    pairs, table = numbered_points(sight)
    ways = [int(other == point) for other, row in pairs]
    for _ in range(length):
        ways = [sum([ways[target] for target in targets]) for targets in table]
    return ways[0]


def rounds(sight):
    """The least numbers (tail, ring) with which rows of tail + ring signs have the points of those of tail signs."""
    lots, tail = _lots_by_length(numbered_points(sight)[1])
    return (tail, len(lots) - tail)


def lengths(sight, point):
    """The lengths below tail, and those from tail to tail + ring - 1, at which some row has the point."""
    pairs, table = numbered_points(sight)
    lots, tail = _lots_by_length(table)
    found = [length for length, lot in enumerate(lots) if point in [pairs[number][0] for number in lot]]
    return (tuple([length for length in found if length < tail]), tuple([length for length in found if length >= tail]))


def numbered_points(sight):
    """The pairs of all points that rows have and their least rows, and for each the numbers of those signs lead to."""
    pairs = sight.points()
    numbers = {point: number for number, (point, row) in enumerate(pairs)}
    return (pairs, [[numbers[sight.step(point, sign)] for sign in sight.signs] for point, row in pairs])


def _lots_by_length(table):
    """The lots of points of the rows of each length until they come round, and the length to which they do."""
    lots = []
    places = {}
    lot = (0,)
    while lot not in places:
        places[lot] = len(lots)
        lots.append(lot)
        lot = tuple(sorted(set([target for number in lot for target in table[number]])))
    return (lots, places[lot])


def told_apart(sight, row, other):
    """The first part at which two rows have unlike acts, and the first mark at which these differ, or None."""
    for at, part in enumerate(sight.parts):
        one = act(part[0], _row_of_part(part, row))
        another = act(part[0], _row_of_part(part, other))
        for mark, target, other_target in zip(part[0].marks, one, another):
            if target != other_target:
                return (at, mark)
    return None


def seen(askings, name, signs):
    """The sight that askings (pairs of a reader and a term) have of a name."""
    parts = []
    for reader, term in askings:
        for part in term.parts:
            if part[0] == "name" and part[1] == name and (reader, part[3], part[2]) not in parts:
                parts.append((reader, part[3], part[2]))
    if not parts:
        parts = [(askings[0][0], None, False)]
    return Sight(signs, parts)


def term_led(reader, mark, term, sights, points):
    """The mark to which the row of a term leads a mark, told by the points of its names alone."""
    for part in term.parts:
        if part[0] == "row":
            mark = reader.led(mark, part[1])
        else:
            name = part[1]
            at = sights[name].parts.index((reader, part[3], part[2]))
            mark = points[name][at][reader.number_of(mark)]
    return mark
