"""Which marks and readers are alike, and readers made of readers."""

from allrows.components import alike_numbers
from allrows.errors import InvalidWord, NoMark
from allrows.lots import check_lot, check_lots, check_signs, flags_of
from allrows.naming import named_reader
from allrows.readers import is_mark, table_of
from allrows.values import is_tuple_of
from allrows.walks import least_way, walked

_WORDS = ("both", "either", "first", "one")


def parting(reader, lot, one, other):
    """The least row that leads just one of two marks into the lot, or None."""
    check_lot(reader, lot)
    for mark in (one, other):
        if not is_mark(reader, mark):
            raise NoMark(mark)
    return _parting_row(reader, lot, reader, lot, (reader.number_of(one), reader.number_of(other)))


def classes(reader, lot):
    """All classes of alike marks."""
    check_lot(reader, lot)
    groups = _groups(reader, lot)
    return tuple([
        tuple([mark for mark, group in zip(reader.marks, groups) if group == number])
        for number in range(max(groups) + 1)
    ])


def merged(reader, lot):
    """The least reader, and a lot into which it reads the rows that the given one reads into its own."""
    check_lot(reader, lot)
    table = table_of(reader)
    groups = _groups(reader, lot)
    some_mark = {group: number for number, group in enumerate(groups)}

    def lead(group, at):
        return groups[table[some_mark[group]][at]]

    least, met = named_reader(reader.signs, groups[reader.number_of(reader.first)], lead)
    flags = flags_of(reader, lot)
    return (least, tuple([mark for mark, group in zip(least.marks, met) if flags[some_mark[group]]]))


def _groups(reader, lot):
    """For each mark the number of its class."""
    return alike_numbers(table_of(reader), flags_of(reader, lot))


def is_same(one, lot, other, others):
    """Whether each row is read into both lots or into none."""
    return apart(one, lot, other, others) is None


def apart(one, lot, other, others):
    """The least row that is read into just one of two lots, or None."""
    check_lots(one, lot, other, others)
    return _parting_row(one, lot, other, others, _first_pair(one, other))


def match(one, lot, other, others):
    """Some match that shows that the readers are the same, or None."""
    check_lots(one, lot, other, others)
    if _parting_row(one, lot, other, others, _first_pair(one, other)) is not None:
        return None
    pairs = walked(one.signs, _first_pair(one, other), _pair_lead(one, other))
    return tuple([_marks_of_pair(one, other, pair) for pair, row in pairs])


def match_holds(one, lot, other, others, value):
    """Whether any value is a match."""
    check_lots(one, lot, other, others)
    if not isinstance(value, tuple) or not all([_is_pair_of_marks(one, other, pair) for pair in value]):
        return False
    pairs = {pair: True for pair in value}
    if len(pairs) < len(value) or (one.first, other.first) not in pairs:
        return False
    if any([(mark in lot) != (mark_of in others) for mark, mark_of in value]):
        return False
    return all([
        (one.led(mark, sign), other.led(mark_of, sign)) in pairs for mark, mark_of in value for sign in one.signs
    ])


def _is_pair_of_marks(one, other, value):
    return is_tuple_of(value, 2) and is_mark(one, value[0]) and is_mark(other, value[1])


def _marks_of_pair(one, other, pair):
    return (one.marks[pair[0]], other.marks[pair[1]])


def _first_pair(one, other):
    return (one.number_of(one.first), other.number_of(other.first))


def _pair_lead(one, other):
    """How a sign leads a pair of the numbers of a mark of each reader."""
    table = table_of(one)
    others = table_of(other)

    def lead(pair, at):
        return (table[pair[0]][at], others[pair[1]][at])

    return lead


def _parting_row(one, lot, other, others, begin):
    """The least row that leads just one of a pair of marks into its lot, or None."""
    flags = flags_of(one, lot)
    other_flags = flags_of(other, others)

    def is_parted(pair):
        return flags[pair[0]] != other_flags[pair[1]]

    return least_way(one.signs, begin, _pair_lead(one, other), is_parted)


def paired(one, other):
    """The reader that goes with both readers at once, and the pairs of marks for which its marks stand."""
    check_signs(one, other)
    reader, pairs = named_reader(one.signs, _first_pair(one, other), _pair_lead(one, other))
    return (reader, tuple([_marks_of_pair(one, other, pair) for pair in pairs]))


def combined(word, one, lot, other, others):
    """The reader of both, and the lot into which the rows are read that the word tells."""
    if word not in _WORDS:
        raise InvalidWord()
    check_lots(one, lot, other, others)
    reader, pairs = paired(one, other)
    told = [_is_told(word, mark in lot, mark_of in others) for mark, mark_of in pairs]
    return (reader, tuple([mark for mark, is_in in zip(reader.marks, told) if is_in]))


def _is_told(word, is_in, is_in_other):
    if word == "both":
        return is_in and is_in_other
    if word == "either":
        return is_in or is_in_other
    if word == "first":
        return is_in and not is_in_other
    return is_in != is_in_other


def backward(reader, lot):
    """The reader of rows turned about, and its lot."""
    check_lot(reader, lot)
    table = table_of(reader)

    def lead(flags, at):
        return tuple([flags[targets[at]] for targets in table])

    turned, lots = named_reader(reader.signs, tuple(flags_of(reader, lot)), lead)
    first = reader.number_of(reader.first)
    return (turned, tuple([mark for mark, flags in zip(turned.marks, lots) if flags[first]]))
