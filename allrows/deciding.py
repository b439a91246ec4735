"""Deciding whether sayings hold for all rows."""

from allrows.choosing import all_choices
from allrows.errors import NoRow
from allrows.hearing import heard_sight, heard_sights
from allrows.judging import judge_of
from allrows.sayings import Saying
from allrows.values import is_row


def true_at(saying, rows):
    """Whether a saying holds if these rows stand for its free names."""
    for name in saying.names:
        if name not in rows or not is_row(rows[name], saying.house.signs):
            raise NoRow(name)
    sights = heard_sights(saying)
    return truth(saying, sights, {name: sight.point_of(rows[name]) for name, sight in sights.items()})


def holds(saying):
    """Whether a saying holds for all rows."""
    return fails(saying) is None


def fails(saying):
    """The least rows for which a saying does not hold, or None."""
    sights = heard_sights(saying)
    judge = judge_of(saying, sights)
    choices = all_choices([sight.points() for sight in sights.values()])
    # the least row of each point is enough: rows of the same points fail alike
    for choice in sorted(choices, key=_order_of_rows):
        if not judge.holds_at({name: point for name, (point, row) in zip(sights, choice)}):
            return tuple([(name, row) for name, (point, row) in zip(sights, choice)])
    return None


def _order_of_rows(choice):
    rows = [row for point, row in choice]
    return (sum([len(row) for row in rows]), rows)


def agree(one, other):
    """Whether two sayings hold for the same rows."""
    house = one.house
    forth = Saying(house, ("if", one, other))
    back = Saying(house, ("if", other, one))
    return holds(Saying(house, ("and", forth, back)))


def sight_of(saying, name):
    """The sight with which a saying hears a free name, None if the name stands nowhere."""
    return heard_sight(saying, name)


def truth(saying, sights, points):
    """Whether a saying holds at told points of its free names, seen with these sights."""
    return judge_of(saying, sights).holds_at(points)
