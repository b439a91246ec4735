"""Rows for names for which two terms do not act alike."""

from allrows.monoids import Monoid


def least_parting(readers, one, other):
    """The least rows for the names of two terms for which they do not act alike on the readers, or None.

    Terms are gone through mark by mark. Of the row for a name no more is settled than where it leads the marks
    that are met, so that few cases are looked at.
    """
    monoid = Monoid(readers)
    leads = _targets_by_mark(monoid)
    names = sorted(set(one.names + other.names))
    every_act = (1 << len(monoid.least_rows)) - 1
    best = None
    for begin in range(len(leads)):
        case = (begin, {name: every_act for name in names})
        for mark, lots in _ends(monoid, leads, one, [case]):
            for other_mark, other_lots in _ends(monoid, leads, other, [(begin, lots)]):
                if mark != other_mark:
                    rows = [monoid.least_rows[_least_of(other_lots[name])] for name in names]
                    best = _lesser(best, rows)
    return None if best is None else tuple(list(zip(names, best)))


def _targets_by_mark(monoid):
    """For each mark the lots of acts that lead it to the same mark, by this mark.

    Lots of acts are told by integers: the bit with an act's number is there if it is in the lot.
    """
    leads = [{} for _ in monoid.acts_found[0]]
    for number, one in enumerate(monoid.acts_found):
        for lots, target in zip(leads, one):
            lots[target] = lots.get(target, 0) | (1 << number)
    return leads


def _ends(monoid, leads, term, cases):
    """The cases behind a term: pairs of a mark, and for each name the lot of acts that its row can have."""
    for part in term.parts:
        if part[0] == "row":
            led = monoid.acts_found[monoid.led(0, part[1])]
            cases = [(led[mark], lots) for mark, lots in cases]
        else:
            cases = [case for mark, lots in cases for case in _led_cases(leads[mark], part[1], lots)]
    return cases


def _led_cases(targets, name, lots):
    """The cases that come of one by the row of a name."""
    cases = []
    for target, lot in targets.items():
        if lots[name] & lot != 0:
            further = dict(lots)
            further[name] = lots[name] & lot
            cases.append((target, further))
    return cases


def _least_of(lot):
    """The number of the first bit that is there: least rows stand in their order."""
    return (lot & -lot).bit_length() - 1


def _lesser(rows, others):
    """Those of both lists of rows with fewer signs together, or ahead in order; the first one may be None."""
    if rows is None or _order(others) < _order(rows):
        return others
    return rows


def _order(rows):
    return (sum([len(row) for row in rows]), rows)
