"""What sayings say of one row, as conditions, and which readers tell conditions."""

from allrows.choosing import all_choices
from allrows.conditions import Condition, contrary, flags_of_marks
from allrows.errors import NoName
from allrows.hearing import heard_sights, points_of_sight
from allrows.judging import judge_of
from allrows.lots import check_signs
from allrows.readers import table_of
from allrows.sayings import Saying
from allrows.placing import walked_points
from allrows.terms import Term
from allrows.walks import walked


def where(saying, name):
    """The condition of the rows for which the saying holds, whatever its other free names are."""
    return contrary(some_where(saying.negated(), name))


def some_where(saying, name):
    """The condition of the rows for which the saying holds with some rows for its other free names."""
    if name not in saying.names:
        raise NoName(name)
    sights = heard_sights(saying)
    things, _, table = walked_points(sights[name].placing)
    judge = judge_of(saying, sights)
    others = [own for own in saying.names if own != name]
    choices = all_choices([points_of_sight(sights[own]) for own in others])
    good = []
    for number, point in enumerate(things):
        if _holds_somewhere(judge, {name: point}, others, choices):
            good.append(number)
    return Condition(saying.house.signs, table, good)


def _holds_somewhere(judge, points, others, choices):
    """Whether the saying holds at these points with some choice of points of the other names."""
    for choice in choices:
        for own, (point, _) in zip(others, choice):
            points[own] = point
        if judge.holds_at(points):
            return True
    return False


def clash(house, condition, names):
    """Some pair of rows, let and not let, that each of these readers leads to the same mark, or None."""
    check_signs(house, condition)
    flags = flags_of_marks(condition)
    rows = {}
    for (mark, marks), row in _reached_marks(house, condition, names):
        rows.setdefault((marks, flags[mark]), row)
    for marks, flag in rows:
        if flag and (marks, False) in rows:
            return (rows[(marks, True)], rows[(marks, False)])
    return None


def decides(house, condition, names):
    """Whether rows that each of these readers leads to the same mark are let alike."""
    return clash(house, condition, names) is None


def deciders(house, condition):
    """All least lots of readers of the house that decide the condition."""
    check_signs(house, condition)
    names = sorted([name for name, reader in house.readers])
    flags = flags_of_marks(condition)
    told = [(marks, flags[mark]) for (mark, marks), row in _reached_marks(house, condition, names)]
    found = []
    for lot in _lots_of_numbers(len(names)):
        is_least = not any([_is_part_of(less, lot) for less in found])
        if is_least and _is_decided(told, lot):
            found.append(lot)
    return tuple([tuple([names[at] for at in lot]) for lot in found])


def told_as(house, condition, names, name):
    """Some saying of the readers' marks for a name that holds for just the rows that are let, or None."""
    check_signs(house, condition)
    flags = flags_of_marks(condition)
    is_let = {}
    for (mark, marks), _ in _reached_marks(house, condition, names):
        if is_let.setdefault(marks, flags[mark]) != flags[mark]:
            return None
    pairs = [(marks, flag) for marks, flag in is_let.items()]
    told = _told_by(house, list(names), name, pairs)
    if told is not None or len(names) == 0:
        return told
    sure = _atom(house, names[0], name, house.reader_of(names[0]).first)
    return Saying(house, ("or" if pairs[0][1] else "and", sure, sure.negated()))


def _reached_marks(house, condition, names):
    """What rows lead to, with the least row: pairs of the mark of the condition and the tuple of those of readers."""
    readers = [house.reader_of(name) for name in names]
    tables = [table_of(reader) for reader in readers]
    firsts = tuple([reader.number_of(reader.first) for reader in readers])

    def lead(thing, at):
        mark, marks = thing
        return (condition.steps[mark][at], tuple([table[own][at] for table, own in zip(tables, marks)]))

    return walked(house.signs, (0, firsts), lead)


def _lots_of_numbers(many):
    """All lots of the numbers below this one, shorter ones first, then ascending."""
    lots = [()]
    for number in range(many):
        lots.extend([(*lot, number) for lot in lots])
    return sorted(lots, key=_lot_order)


def _lot_order(lot):
    return (len(lot), lot)


def _is_part_of(less, lot):
    return all([at in lot for at in less])


def _is_decided(told, lot):
    """Whether the marks of the readers of a lot tell whether a row is let."""
    is_let = {}
    for marks, flag in told:
        if is_let.setdefault(tuple([marks[at] for at in lot]), flag) != flag:
            return False
    return True


def _atom(house, reader, name, mark):
    return Saying(house, ("is", reader, Term.of_name(name), mark))


def _told_by(house, readers, name, pairs):
    """A saying that holds for the marks that are let, None if all are let alike.

    The pairs are one of marks, by a number for each reader, and whether they are let.
    """
    if all([flag == pairs[0][1] for marks, flag in pairs]):
        return None
    reader = house.reader_of(readers[0])
    told = []
    for number, mark in enumerate(reader.marks):
        rests = [(marks[1:], flag) for marks, flag in pairs if marks[0] == number]
        if not any([flag for marks, flag in rests]):
            continue
        atom = _atom(house, readers[0], name, mark)
        inner = _told_by(house, readers[1:], name, rests)
        told.append(atom if inner is None else Saying(house, ("and", atom, inner)))
    return _any_of(house, told)


def _any_of(house, sayings):
    """Some saying that holds if one of these does; cut in halves, so that they do not stand deep in one another."""
    if len(sayings) == 1:
        return sayings[0]
    middle = len(sayings) // 2
    return Saying(house, ("or", _any_of(house, sayings[:middle]), _any_of(house, sayings[middle:])))
