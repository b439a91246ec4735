"""The least rows that act like others on readers, and the rules by which rows are led to them."""

from allrows.monoids import Monoid
from allrows.partings import least_parting
from allrows.rules import Rules
from allrows.walks import least_way


def least_ones(readers):
    """The least rows of all that act alike."""
    return tuple(Monoid(readers).least_rows)


def least_like(readers, row):
    """The least row that acts like a row."""
    return Monoid(readers).like(row)


def rules_of(readers):
    """The rules that lead each row to the least one that acts like it."""
    monoid = Monoid(readers)
    least = {row: True for row in monoid.least_rows}
    pairs = []
    for row in monoid.least_rows:
        for sign in monoid.signs:
            longer = row + sign
            if longer not in least and longer[1:] in least:
                pairs.append((longer, monoid.like(longer)))
    return Rules(monoid.signs, pairs)


def unsound(readers, rules):
    """The number of the first pair whose sides do not act alike, or None."""
    return _first_unsound(Monoid(readers), rules)


def _first_unsound(monoid, rules):
    for number, (left, right) in enumerate(rules.pairs):
        if monoid.led(0, left) != monoid.led(0, right):
            return number
    return None


def fits(readers, rules):
    """Whether two rows act alike exactly if they are reduced to one row."""
    return misfit(readers, rules) is None


def misfit(readers, rules):
    """Some pair of rows that shows that the rules do not fit, or None."""
    monoid = Monoid(readers)
    number = _first_unsound(monoid, rules)
    if number is not None:
        return rules.pairs[number]
    return _alike_plain_rows(monoid, rules)


def _alike_plain_rows(monoid, rules):
    """Two plain rows that act alike, or None; if no pair is unsound, there are such where an overlap is open."""
    plain = [("", 0)]
    rows = {0: ""}
    at = 0
    # of one plain row more than there are acts two act alike, so this comes to an end
    while at < len(plain):
        row, number = plain[at]
        for sign, target in zip(monoid.signs, monoid.table[number]):
            longer = row + sign
            if any([longer.endswith(left) for left, right in rules.pairs]):
                continue
            if target in rows:
                return (rows[target], longer)
            rows[target] = longer
            plain.append((longer, target))
        at += 1
    return None


def tells(readers, others):
    """Whether rows that act alike on the readers always act alike on the others."""
    return untold(readers, others) is None


def untold(readers, others):
    """Some pair of rows that act alike on the readers, and not on the others, or None."""
    rules = rules_of(readers)
    number = unsound(others, rules)
    return None if number is None else rules.pairs[number]


def turns(readers, row):
    """The least numbers (begin, turn) so that the row begin times acts like it begin + turn times."""
    found, begin = Monoid(readers).round_of(row)
    return (begin, len(found) - begin)


def power(readers, row, many):
    """The least row that acts like the row so many times."""
    monoid = Monoid(readers)
    found, begin = monoid.round_of(row)
    at = many if many < begin else begin + (many - begin) % (len(found) - begin)
    return monoid.least_rows[found[at]]


def turning(readers):
    """The least row whose turn is above 1, or None."""
    monoid = Monoid(readers)
    for row in monoid.least_rows:
        found, begin = monoid.round_of(row)
        if len(found) - begin > 1:
            return row
    return None


def behind(readers, one, other):
    """The least row which, put behind the one, acts with it like the other, or None."""
    monoid = Monoid(readers)
    asked = monoid.led(0, other)

    def lead(number, at):
        return monoid.table[number][at]

    def is_asked(number):
        return number == asked

    return least_way(monoid.signs, monoid.led(0, one), lead, is_asked)


def ahead(readers, one, other):
    """The least row which, put ahead of the one, acts with it like the other, or None."""
    monoid = Monoid(readers)
    asked = monoid.led(0, other)
    for number, row in enumerate(monoid.least_rows):
        if monoid.led(number, one) == asked:
            return row
    return None


def commute(readers):
    """The least pair of rows that do not act alike in both orders, or None."""
    monoid = Monoid(readers)
    # if all signs commute, all rows do; and a sign that commutes with all signs does with all rows
    for sign in monoid.signs:
        for other in monoid.signs:
            if monoid.led(0, sign + other) != monoid.led(0, other + sign):
                return (sign, other)
    return None


def always_alike(readers, one, other):
    """Whether both terms act alike whatever rows stand for their names."""
    return parting_rows(readers, one, other) is None


def parting_rows(readers, one, other):
    """The least rows for the names of two terms for which they do not act alike, or None."""
    return least_parting(readers, one, other)
