"""Halves between two sayings: conditions that the one always gives, and that always give the other one."""

from allrows.choosing import all_choices
from allrows.conditions import Condition, pair_lead, rest
from allrows.errors import Mismatch
from allrows.hearing import heard_sights, point_in, points_of_sight
from allrows.judging import judge_of
from allrows.rowsets import least_let
from allrows.walks import walked_table
from allrows.wheres import some_where, where


def halves(one, other):
    """The least and the greatest half, or None."""
    least, greatest = _ends(one, other)
    return (least, greatest) if least.within(greatest) else None


def is_half(one, other, condition):
    """Whether a condition is a half."""
    least, greatest = _ends(one, other)
    return least.within(condition) and condition.within(greatest)


def is_only(one, other):
    """Whether there is just one half."""
    least, greatest = _ends(one, other)
    return least == greatest


def loose_rows(one, other):
    """The condition of the rows that some halves let and others do not, None without a half."""
    told = halves(one, other)
    return None if told is None else rest(told[1], told[0])


def broken(one, other):
    """The least row at which the one does not give the other one, with rows that show it, None if there is a half."""
    least, greatest = _ends(one, other)
    row = least_let(rest(least, greatest))
    if row is None:
        return None
    name = _common_name(one, other)
    return (row, _other_rows(one, name, row, True), _other_rows(other, name, row, False))


def fewest_half(one, other):
    """Some half with as few marks as any, or None."""
    told = halves(one, other)
    if told is None:
        return None
    known = min(told, key=_many_marks)
    for many in range(1, len(known)):
        found = _half_with(many, told[0], told[1])
        if found is not None:
            return found
    return known


def _many_marks(condition):
    return len(condition)


def _common_name(one, other):
    names = [name for name in one.names if name in other.names]
    if len(names) != 1:
        raise Mismatch()
    return names[0]


def _ends(one, other):
    """The least and the greatest half, if there is a half at all."""
    name = _common_name(one, other)
    return (some_where(one, name), where(other, name))


def _other_rows(saying, name, row, is_holding):
    """Rows for the other free names with which the saying holds, or does not, for this row."""
    sights = heard_sights(saying)
    judge = judge_of(saying, sights)
    others = [own for own in saying.names if own != name]
    points = {name: point_in(sights[name], row)}
    for choice in all_choices([points_of_sight(sights[own]) for own in others]):
        for own, (point, _) in zip(others, choice):
            points[own] = point
        if judge.holds_at(points) == is_holding:
            return tuple([(own, told) for own, (_, told) in zip(others, choice)])
    return None


def _half_with(many, least, greatest):
    """Some half with at most so many marks, or None."""
    pairs, _, table = walked_table(least.signs, (0, 0), pair_lead(least, greatest))
    # True: has to be let, False: must not be, None: either way
    asked = [_asked_of(mark in least.good, other_mark in greatest.good) for mark, other_mark in pairs]
    waiting = [{}]
    while waiting:
        steps = waiting.pop()
        told, missing = _gone_through(table, asked, steps)
        if told is None:
            continue
        if missing is None:
            return _made_half(least.signs, steps, told)
        # of marks that were not come to yet all are alike
        for target in reversed(range(min(many, len(told) + 1))):
            further = {step: steps[step] for step in steps}
            further[missing] = target
            waiting.append(further)
    return None


def _asked_of(is_in_least, is_in_greatest):
    if is_in_least:
        return True
    return None if is_in_greatest else False


def _gone_through(table, asked, steps):
    """What is asked of each mark that rows come to by the steps told so far, and the first step that is missing.

    The first one is None if one mark has to be let and must not be. Steps are pairs of a mark and the number of a sign.
    """
    told = {}
    begin = (0, 0)
    met = {begin: True}
    waiting = [begin]
    missing = None
    while waiting:
        mark, number = waiting.pop()
        told.setdefault(mark, None)
        if asked[number] is not None:
            if told[mark] is not None and told[mark] != asked[number]:
                return (None, None)
            told[mark] = asked[number]
        for at, target in enumerate(table[number]):
            if (mark, at) not in steps:
                missing = (mark, at) if missing is None else missing
                continue
            pair = (steps[(mark, at)], target)
            if pair not in met:
                met[pair] = True
                waiting.append(pair)
    return (told, missing)


def _made_half(signs, steps, told):
    table = [[steps[(mark, at)] for at in range(len(signs))] for mark in range(len(told))]
    return Condition(signs, table, [mark for mark in told if told[mark]])
