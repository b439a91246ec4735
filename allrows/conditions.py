"""Conditions: they tell which rows they let, and have one form for the same rows."""

from allrows.components import alike_numbers
from allrows.errors import InvalidCondition, InvalidText
from allrows.lots import check_signs
from allrows.readers import is_told, lines_of_text
from allrows.values import is_digits, is_integer, is_sequence, is_signs
from allrows.walks import walked, walked_table

_MOST_DIGITS = 3


class Condition:
    """Numbered marks: where signs lead each of them, and which are good. Rows are read from the mark 0 on."""

    def __init__(self, signs, steps, good):
        if not is_signs(signs):
            raise InvalidCondition("signs")
        if not _is_steps(steps, signs):
            raise InvalidCondition("steps")
        if not _is_good(good, len(steps)):
            raise InvalidCondition("good")
        least_steps, flags = _least_form(signs, steps, good)
        self.signs = signs
        self.steps = least_steps
        self.good = tuple([mark for mark, flag in enumerate(flags) if flag])

    @classmethod
    def parse(cls, text):
        lines = lines_of_text(text)
        if not is_told(lines[0], "condition"):
            raise InvalidText(0)
        steps = []
        good = []
        for mark, line in enumerate(lines[1:]):
            targets, is_good = _targets_of_line(line, mark)
            if not targets:
                raise InvalidText(mark + 1)
            steps.append(targets)
            if is_good:
                good.append(mark)
        return cls(lines[0].split(" ")[1], steps, good)

    def lets(self, row):
        """Whether the row is let."""
        return self.led(0, row) in self.good

    def led(self, mark, row):
        """The mark to which a row leads a mark."""
        for sign in row:
            mark = self.steps[mark][self.signs.index(sign)]
        return mark

    def within(self, other):
        """Whether the other condition lets all rows that this one lets."""
        return len(rest(self, other).good) == 0

    def __len__(self):
        return len(self.steps)

    def __eq__(self, other):
        return (
            isinstance(other, Condition)
            and self.signs == other.signs
            and self.steps == other.steps
            and self.good == other.good
        )

    def __str__(self):
        return "\n".join([f"condition {self.signs}", *_lines_of_marks(self)])


def flags_of_marks(condition):
    """For each mark whether it is good."""
    good = {mark: True for mark in condition.good}
    return [mark in good for mark in range(len(condition.steps))]


def condition_of(signs, begin, lead, is_good):
    """The condition whose marks are the things to which rows lead from the beginning.

    lead(thing, at) is where the sign with the number at leads a thing, is_good(thing) whether its rows are let.
    """
    things, _, steps = walked_table(signs, begin, lead)
    return Condition(signs, steps, [number for number, thing in enumerate(things) if is_good(thing)])


def both(one, other):
    """The condition that lets what both let."""
    return _put_together(one, other, _is_in_both)


def either(one, other):
    """The condition that lets what one of both lets."""
    return _put_together(one, other, _is_in_either)


def rest(one, other):
    """The condition that lets what the one lets and the other one does not."""
    return _put_together(one, other, _is_in_first)


def contrary(condition):
    """The condition that lets what the given one does not let."""
    return Condition(condition.signs, condition.steps, [
        mark for mark, flag in enumerate(flags_of_marks(condition)) if not flag
    ])


def every(signs):
    """The condition that lets all rows."""
    return Condition(signs, [[0 for _ in signs]], [0])


def only(signs, rows):
    """The condition that lets just these rows."""
    told = {row: True for row in rows}
    begins = {row[:end]: True for row in rows for end in range(len(row) + 1)}

    def lead(begin, at):
        # None stands for all rows that none of these begins with
        if begin is None or begin + signs[at] not in begins:
            return None
        return begin + signs[at]

    def is_one(begin):
        return begin in told

    return condition_of(signs, "", lead, is_one)


def _is_in_both(is_let, is_let_by_other):
    return is_let and is_let_by_other


def _is_in_either(is_let, is_let_by_other):
    return is_let or is_let_by_other


def _is_in_first(is_let, is_let_by_other):
    return is_let and not is_let_by_other


def pair_lead(one, other):
    """How a sign leads a pair of a mark of each condition."""

    def lead(pair, at):
        return (one.steps[pair[0]][at], other.steps[pair[1]][at])

    return lead


def _put_together(one, other, is_let):
    check_signs(one, other)
    flags = flags_of_marks(one)
    other_flags = flags_of_marks(other)

    def is_good(pair):
        return is_let(flags[pair[0]], other_flags[pair[1]])

    return condition_of(one.signs, (0, 0), pair_lead(one, other), is_good)


def _is_steps(value, signs):
    if not is_sequence(value) or len(value) == 0:
        return False
    return all([_is_marks(targets, len(value)) and len(targets) == len(signs) for targets in value])


def _is_good(value, many):
    return _is_marks(value, many) and len(set(value)) == len(value)


def _is_marks(value, many):
    """Whether a value is a sequence of numbers of so many marks."""
    return is_sequence(value) and all([is_integer(mark) and 0 <= mark < many for mark in value])


def _least_form(signs, steps, good):
    """The steps, and for each mark whether it is good, of the condition with as few marks as possible."""

    def lead(mark, at):
        return steps[mark][at]

    told = {mark: True for mark in good}
    # in the order of the least rows, so that alike marks get numbers in this order
    reached = [mark for mark, row in walked(signs, 0, lead)]
    places = {mark: place for place, mark in enumerate(reached)}
    table = [[places[target] for target in steps[mark]] for mark in reached]
    groups = alike_numbers(table, [mark in told for mark in reached])
    least = {}
    for group, mark, targets in zip(groups, reached, table):
        if group not in least:
            least[group] = (tuple([groups[place] for place in targets]), mark in told)
    return (tuple([targets for targets, flag in least.values()]), [flag for targets, flag in least.values()])


def _lines_of_marks(condition):
    lines = []
    for mark, (targets, flag) in enumerate(zip(condition.steps, flags_of_marks(condition))):
        words = [str(number) for number in targets] + (["good"] if flag else [])
        lines.append(f"{mark}: {' '.join(words)}")
    return lines


def _targets_of_line(line, mark):
    """The list of the marks that a line of this mark tells, empty if it has not this form, and whether it is good."""
    head, _, told = line.partition(": ")
    words = told.split(" ")
    is_good = words[-1] == "good"
    if is_good:
        words.pop()
    if head != str(mark) or not all([is_digits(word) and len(word) <= _MOST_DIGITS for word in [head] + words]):
        return ([], False)
    return ([int(word) for word in words], is_good)
