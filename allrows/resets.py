"""Rows that lead all marks to one, and pairs of marks that last."""

from allrows.readers import is_mark, table_of
from allrows.values import is_tuple_of
from allrows.walks import least_way


def reset(reader):
    """The least row that leads all marks to one, or None."""
    # with a pair that lasts there is no need to go through all lots of marks
    if _lasting_numbers(reader):
        return None
    table = table_of(reader)

    def lead(numbers, at):
        return tuple(sorted(set([table[number][at] for number in numbers])))

    def is_one(numbers):
        return len(numbers) == 1

    return least_way(reader.signs, tuple(range(len(table))), lead, is_one)


def lasting(reader):
    """Some pairs of marks that are never led to one, None if there is a reset."""
    pairs = _lasting_numbers(reader)
    if not pairs:
        return None
    return tuple([(reader.marks[one], reader.marks[other]) for one, other in pairs])


def lasting_holds(reader, value):
    """Whether any value is a tuple of lasting pairs."""
    if not isinstance(value, tuple) or not all([_is_unlike_pair(reader, pair) for pair in value]):
        return False
    pairs = {}
    for one, other in value:
        pairs[(one, other)] = True
        pairs[(other, one)] = True
    if len(value) == 0 or len(pairs) < 2 * len(value):
        return False
    return all([
        (reader.led(one, sign), reader.led(other, sign)) in pairs for one, other in value for sign in reader.signs
    ])


def _is_unlike_pair(reader, value):
    return is_tuple_of(value, 2) and all([is_mark(reader, mark) for mark in value]) and value[0] != value[1]


def _lasting_numbers(reader):
    """The pairs of unlike marks, by numbers, the lesser one first, that no row leads to one mark."""
    table = table_of(reader)
    pairs = [(one, other) for other in range(len(table)) for one in range(other)]
    sources = {pair: [] for pair in pairs}
    met = []
    for one, other in pairs:
        for target, other_target in zip(table[one], table[other]):
            if target == other_target:
                met.append((one, other))
            else:
                sources[(min(target, other_target), max(target, other_target))].append((one, other))
    ends = {pair: True for pair in met}
    while met:
        target_pair = met.pop()
        for pair in sources[target_pair]:
            if pair not in ends:
                ends[pair] = True
                met.append(pair)
    return [pair for pair in pairs if pair not in ends]
