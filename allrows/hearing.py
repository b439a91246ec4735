"""What a saying hears of its free names."""

from allrows.choosing import all_choices
from allrows.sayings import inner_sayings, readings_of
from allrows.placing import walked_points
from allrows.sights import Sight


def heard_parts(saying, name):
    """The parts with which a saying hears a name where it is free, in order, each once."""
    found = {}
    for reader, part in _free_parts(saying, name):
        change = part[3]
        key = (reader, "" if change is None else str(change), part[2])
        found[key] = (saying.house.reader_of(reader), change, part[2])
    parts = []
    # readers with unlike names may be equal
    for key in sorted(list(found)):
        if found[key] not in parts:
            parts.append(found[key])
    return parts


def _free_parts(saying, name):
    """The pairs of a reader's name and a part of a term with the name, at all places where it is free."""
    found = []
    waiting = [saying]
    while waiting:
        one = waiting.pop()
        if name not in one.names:
            continue
        for reader, term in readings_of(one.form):
            found.extend([(reader, part) for part in term.parts if part[0] == "name" and part[1] == name])
        waiting.extend(inner_sayings(one.form))
    return found


def heard_sight(saying, name):
    """The sight with which a saying hears a name, None if it does not."""
    parts = heard_parts(saying, name)
    return Sight(saying.house.signs, parts) if parts else None


def heard_sights(saying):
    """For each free name the sight with which a saying hears it."""
    return {name: heard_sight(saying, name) for name in saying.names}


def points_of_sight(sight):
    """The list of pairs of a placed point and its least row, also if there is no sight."""
    if sight is None:
        return [((), "")]
    things, rows, _ = walked_points(sight.placing)
    return list(zip(things, rows))


def point_in(sight, row):
    """The placed point of a row, also if there is no sight."""
    return () if sight is None else sight.placing.placed_row(row)


def placed_in(sight, point):
    """The placed point that a point is, also if there is no sight."""
    return () if sight is None else sight.placing.placed(point)


def choices_of_rows(sights):
    """All choices of a placed point, with its least row, for each name, ordered as least rows are.

    First come those with fewer signs, then those ahead by their rows. Least rows are enough where points tell all.
    """
    return sorted(all_choices([points_of_sight(sight) for sight in sights.values()]), key=_order_of_rows)


def _order_of_rows(choice):
    rows = [row for point, row in choice]
    return (sum([len(row) for row in rows]), rows)
