"""Deciding whether sayings hold for all rows."""

from allrows.errors import NoRow
from allrows.hearing import choices_of_rows, heard_sight, heard_sights, placed_in, point_in
from allrows.judging import judge_of
from allrows.sayings import Saying
from allrows.values import is_row


def true_at(saying, rows):
    """Whether a saying holds if these rows stand for its free names."""
    for name in saying.names:
        if name not in rows or not is_row(rows[name], saying.house.signs):
            raise NoRow(name)
    sights = heard_sights(saying)
    return judge_of(saying, sights).holds_at({name: point_in(sight, rows[name]) for name, sight in sights.items()})


def holds(saying):
    """Whether a saying holds for all rows."""
    return fails(saying) is None


def fails(saying):
    """The least rows for which a saying does not hold, or None."""
    sights = heard_sights(saying)
    judge = judge_of(saying, sights)
    for choice in choices_of_rows(sights):
        if not judge.holds_at({name: point for name, (point, row) in zip(sights, choice)}):
            return tuple([(name, row) for name, (point, row) in zip(sights, choice)])
    return None


def agree(one, other):
    """Whether two sayings hold for the same rows."""
    house = one.house
    forth = Saying(house, ("if", one, other))
    back = Saying(house, ("if", other, one))
    return holds(Saying(house, ("and", forth, back)))


def sight_of(saying, name):
    """The sight with which a saying hears a free name, None if the name stands nowhere."""
    return heard_sight(saying, name)


def truth(saying, sights, points):
    """Whether a saying holds at told points of its free names, seen with these sights."""
    placed = {name: placed_in(sights[name], points[name]) for name in saying.names}
    return judge_of(saying, sights).holds_at(placed)
