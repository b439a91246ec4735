"""Rows that lead numbered marks on: how many lead into good ones, and which, in their order.

A table has for each mark the numbers of the marks to which the signs lead it; flags tell for each mark whether it
is good.
"""


def ways_by_length(table, flags, length):
    """For each length up to this one how many rows lead each mark into the good ones."""
    ways = [[int(flag) for flag in flags]]
    for _ in range(length):
        ways.append(_ways_ahead(table, ways[-1]))
    return ways


def _ways_ahead(table, ways):
    """How many rows lead each mark on, told by how many with a sign less do."""
    return [sum([ways[target] for target in targets]) for targets in table]


def longest_from(table, first, flags):
    """The greatest length of a row that leads the first mark to a good one, None if there is none, or "endless"."""
    marks = [first]
    most = None
    # rows of at least as many signs as there are marks come to a mark twice: one of them is shorter than
    # twice as many signs, if there is one at all
    for length in range(2 * len(table)):
        if any([flags[mark] for mark in marks]):
            most = length
        marks = sorted(set([target for mark in marks for target in table[mark]]))
    if most is not None and most >= len(table):
        return "endless"
    return most


def row_numbered(signs, table, first, flags, number):
    """The row with this number among those that lead the first mark to a good one, None if there are not so many."""
    last = longest_from(table, first, flags)
    ways = ways_by_length(table, flags, 0)
    while last is not None:
        if number < ways[-1][first]:
            return _row_of_length(signs, table, first, ways, number)
        if last == len(ways) - 1:
            return None
        number -= ways[-1][first]
        ways.append(_ways_ahead(table, ways[-1]))
    return None


def _row_of_length(signs, table, at, ways, number):
    """The row with this number among those from a mark on with one sign less than there are ways."""
    row = ""
    for left in reversed(range(len(ways) - 1)):
        for sign, target in zip(signs, table[at]):
            if number < ways[left][target]:
                row += sign
                at = target
                break
            number -= ways[left][target]
    return row


def number_of_row(signs, table, first, flags, row):
    """The number of a row among those that lead the first mark to a good one, None if it is none of them."""
    ways = ways_by_length(table, flags, len(row))
    at = first
    number = sum([ways[length][at] for length in range(len(row))])
    for place, sign in enumerate(row):
        sign_at = signs.index(sign)
        number += sum([ways[len(row) - place - 1][target] for target in table[at][:sign_at]])
        at = table[at][sign_at]
    return number if flags[at] else None
