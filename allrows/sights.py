"""Sights: what several readers see of one row, forwards or backwards, as it is or through a change."""

from allrows.acts import act, act_then, first_act
from allrows.changes import Change
from allrows.errors import InvalidSight
from allrows.placing import Placing, row_of_part, walked_points
from allrows.readers import Reader, is_mark
from allrows.tables import ways_by_length
from allrows.values import is_sequence, is_signs, is_tuple_of
from allrows.walks import least_way


class Sight:
    """Parts that see a row: a reader, the change through which it sees, and whether it reads backwards."""

    def __init__(self, signs, parts):
        if not is_signs(signs):
            raise InvalidSight("signs")
        if not is_sequence(parts) or len(parts) == 0 or not all([_is_part(part, signs) for part in parts]):
            raise InvalidSight("parts")
        self.signs = signs
        self.parts = tuple(parts)
        self.placing = Placing(signs, self.parts)

    def begin(self):
        """The point of the empty row."""
        return tuple([first_act(part[0]) for part in self.parts])

    def step(self, point, sign):
        """The point of the row with one sign more at its end."""
        placing = self.placing
        return placing.marked(placing.step(placing.placed(point), self.signs.index(sign)))

    def point_of(self, row):
        return self.placing.marked(self.placing.placed_row(row))

    def put_behind(self, point, other):
        """The point of a row with the first point and one with the other point behind it."""
        return tuple([_put_together(part, one, more) for part, one, more in zip(self.parts, point, other)])

    def points(self):
        """All points that rows have, each with its least row."""
        things, rows, _ = walked_points(self.placing)
        return tuple([(self.placing.marked(placed), row) for placed, row in zip(things, rows)])

    def __len__(self):
        return len(self.parts)

    def __eq__(self, other):
        return isinstance(other, Sight) and self.signs == other.signs and self.parts == other.parts


def _is_part(value, signs):
    if not is_tuple_of(value, 3) or not isinstance(value[0], Reader) or not isinstance(value[2], bool):
        return False
    if value[1] is not None and (not isinstance(value[1], Change) or value[1].signs != signs):
        return False
    return value[0].signs == signs


def _put_together(part, one, other):
    """The act of a part for two rows put together: turned about, the later one comes first."""
    if part[2]:
        return act_then(part[0], other, one)
    return act_then(part[0], one, other)


def row_with(sight, point):
    """The least row with a point, None if no row has it."""
    if not is_point(sight.parts, point):
        return None
    placing = sight.placing
    asked = placing.placed(point)

    def lead(placed, at):
        return placing.step(placed, at)

    def is_asked(placed):
        return placed == asked

    return least_way(sight.signs, placing.at_first, lead, is_asked)


def lot_closed(sight, value):
    """Whether any value is a tuple of points with the first one, and with each one those of all signs."""
    if not isinstance(value, tuple) or not all([is_point(sight.parts, point) for point in value]):
        return False
    placing = sight.placing
    told = {placing.placed(point): True for point in value}
    if placing.at_first not in told:
        return False
    return all([placing.step(placed, at) in told for placed in told for at in range(len(sight.signs))])


def is_point(parts, value):
    """Whether any value has an act of the reader for each of these parts."""
    if not is_tuple_of(value, len(parts)):
        return False
    return all([_is_act(part[0], one) for part, one in zip(parts, value)])


def _is_act(reader, value):
    return is_tuple_of(value, len(reader.marks)) and all([is_mark(reader, mark) for mark in value])


def many(sight, point, length):
    """How many rows of this length have a point."""
    things, _, table = walked_points(sight.placing)
    flags = [sight.placing.marked(placed) == point for placed in things]
    return ways_by_length(table, flags, length)[length][0]


def rounds(sight):
    """The least numbers (tail, ring) with which rows of tail + ring signs have the points of those of tail signs."""
    lots, tail = _lots_by_length(walked_points(sight.placing)[2])
    return (tail, len(lots) - tail)


def lengths(sight, point):
    """The lengths below tail, and those from tail to tail + ring - 1, at which some row has the point."""
    things, _, table = walked_points(sight.placing)
    lots, tail = _lots_by_length(table)
    flags = [sight.placing.marked(placed) == point for placed in things]
    found = [length for length, lot in enumerate(lots) if any([flags[number] for number in lot])]
    return (tuple([length for length in found if length < tail]), tuple([length for length in found if length >= tail]))


def _lots_by_length(table):
    """The lots of points of the rows of each length until they come round, and the length to which they do."""
    lots = []
    places = {}
    lot = (0,)
    while lot not in places:
        places[lot] = len(lots)
        lots.append(lot)
        lot = tuple(sorted(set([target for number in lot for target in table[number]])))
    return (lots, places[lot])


def told_apart(sight, row, other):
    """The first part at which two rows have unlike acts, and the first mark at which these differ, or None."""
    for at, part in enumerate(sight.parts):
        one = act(part[0], row_of_part(part, row))
        another = act(part[0], row_of_part(part, other))
        for mark, target, other_target in zip(part[0].marks, one, another):
            if target != other_target:
                return (at, mark)
    return None


def seen(askings, name, signs):
    """The sight that askings (pairs of a reader and a term) have of a name."""
    parts = []
    for reader, term in askings:
        for part in term.parts:
            if part[0] == "name" and part[1] == name and (reader, part[3], part[2]) not in parts:
                parts.append((reader, part[3], part[2]))
    if not parts:
        parts = [(askings[0][0], None, False)]
    return Sight(signs, parts)


def term_led(reader, mark, term, sights, points):
    """The mark to which the row of a term leads a mark, told by the points of its names alone."""
    for part in term.parts:
        if part[0] == "row":
            mark = reader.led(mark, part[1])
        else:
            name = part[1]
            at = sights[name].parts.index((reader, part[3], part[2]))
            mark = points[name][at][reader.number_of(mark)]
    return mark
