"""Acts: what a row does to a reader, from each of its marks."""

from allrows.components import components
from allrows.errors import InvalidRow
from allrows.readers import table_of
from allrows.values import is_row
from allrows.walks import least_way, walked, walked_table


def act(reader, row):
    """The marks to which a row leads from each mark."""
    if not is_row(row, reader.signs):
        raise InvalidRow()
    return _marks_at(reader, reader.numbers_led(row))


def first_act(reader):
    """The act of the empty row."""
    return reader.marks


def act_then(reader, one, other):
    """The act of doing the one and then the other."""
    return tuple([other[reader.number_of(mark)] for mark in one])


def acts(reader):
    """All acts that rows have, each with its least row."""
    table = table_of(reader)
    pairs = walked(reader.signs, tuple(range(len(table))), _act_lead(table))
    return tuple([(_marks_at(reader, numbers), row) for numbers, row in pairs])


def undo_row(reader, one):
    """The least row that leaves each mark where it was if it is done behind the act, or None."""
    table = table_of(reader)
    first = tuple(range(len(table)))

    def is_first(numbers):
        return numbers == first

    return least_way(reader.signs, tuple([reader.number_of(mark) for mark in one]), _act_lead(table), is_first)


def homes(reader):
    """All classes of acts that lead to one another."""
    return tuple([acts_of for acts_of, is_last in _told_homes(reader)])


def last_homes(reader):
    """The classes of acts that lead to one another and to no act outside."""
    return tuple([acts_of for acts_of, is_last in _told_homes(reader) if is_last])


def _told_homes(reader):
    """The pairs of a class of acts and whether no act outside is led to."""
    table = table_of(reader)
    found, _, targets = walked_table(reader.signs, tuple(range(len(table))), _act_lead(table))
    home_of = components(targets)
    members = [[] for _ in range(max(home_of) + 1)]
    is_last = [True for _ in members]
    for at, home in enumerate(home_of):
        members[home].append(_marks_at(reader, found[at]))
        if any([home_of[target] != home for target in targets[at]]):
            is_last[home] = False
    return [(tuple(acts_of), is_end) for acts_of, is_end in zip(members, is_last)]


def _act_lead(table):
    """How a sign, done behind an act, leads on; acts are told by the numbers of marks."""

    def lead(numbers, at):
        return tuple([table[number][at] for number in numbers])

    return lead


def _marks_at(reader, numbers):
    return tuple([reader.marks[number] for number in numbers])
