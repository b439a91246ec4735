"""Conditions made of conditions: for rows turned about, put together, cut, changed.

Many marks at once are told by an integer: the bit with a mark's number is there if the mark is among them.
"""

from allrows.conditions import condition_of, flags_of_marks
from allrows.lots import check_signs


def turned(condition):
    """The condition that lets the rows that the given one lets turned about."""

    def lead(marks, at):
        return _bits([mark for mark, targets in enumerate(condition.steps) if _has(marks, targets[at])])

    def is_good(marks):
        return _has(marks, 0)

    return condition_of(condition.signs, _bits(condition.good), lead, is_good)


def joined(one, other):
    """The condition that lets rows that can be cut into one that the one lets, and one that the other one lets."""
    check_signs(one, other)
    flags = flags_of_marks(one)
    good = _bits(other.good)

    def with_begin(mark, others):
        # where the one lets the row so far, a row for the other one may begin
        return (mark, others | 1 if flags[mark] else others)

    def lead(pair, at):
        targets = _bits([other.steps[mark][at] for mark in _marks(pair[1])])
        return with_begin(one.steps[pair[0]][at], targets)

    def is_good(pair):
        return pair[1] & good != 0

    return condition_of(one.signs, with_begin(0, 0), lead, is_good)


def ahead(condition, row):
    """The condition that lets the rows that the given one lets behind this row."""
    return _condition_from(condition, condition.led(0, row), list(condition.signs))


def before(condition, change):
    """The condition that lets the rows whose images the given one lets."""
    check_signs(condition, change)
    return _condition_from(condition, 0, list(change.rows))


def _condition_from(condition, begin, images):
    """The condition with another first mark, and in which each sign leads as its image does."""
    flags = flags_of_marks(condition)

    def lead(mark, at):
        return condition.led(mark, images[at])

    def is_good(mark):
        return flags[mark]

    return condition_of(condition.signs, begin, lead, is_good)


def after(condition, change):
    """The condition that lets the images of the rows that the given one lets."""
    check_signs(condition, change)
    places = Places(condition, change)

    def lead(numbers, at):
        return places.led(numbers, at)

    def is_good(numbers):
        return numbers & places.good != 0

    return condition_of(condition.signs, places.at_first, lead, is_good)


class Places:
    """The places in images at which a row can be: pairs of the mark behind the image, and what of it is to come.

    They are numbered, and each one told as the places at which the row then is as well, since images may be empty.
    """

    def __init__(self, condition, change):
        rests = [""] + [image[at:] for image in change.rows for at in range(1, len(image))]
        self.numbers = {}
        for mark in range(len(condition)):
            for rest in rests:
                self.numbers.setdefault((mark, rest), len(self.numbers))
        self.change = change
        self.steps = condition.steps
        self.leads = [[self._behind_sign(place, sign) for sign in change.signs] for place in self.numbers]
        self.at_first = self._all_bits([(0, "")])
        self.good = _bits([self.numbers[(mark, "")] for mark in condition.good])

    def led(self, numbers, at):
        """The places to which a sign of the image leads some places."""
        told = 0
        for number in _marks(numbers):
            told = told | self.leads[number][at]
        return told

    def _behind_sign(self, place, sign):
        mark, rest = place
        if rest != "":
            return self._all_bits([(mark, rest[1:])]) if rest[0] == sign else 0
        found = []
        for image, target in zip(self.change.rows, self.steps[mark]):
            if image.startswith(sign):
                found.append((target, image[1:]))
        return self._all_bits(found)

    def _all_bits(self, places):
        """The bits of these places, and of all to which empty images lead."""
        found = {place: True for place in places}
        waiting = list(found)
        while waiting:
            mark, rest = waiting.pop()
            for image, target in zip(self.change.rows, self.steps[mark]):
                if rest == "" and image == "" and (target, "") not in found:
                    found[(target, "")] = True
                    waiting.append((target, ""))
        return _bits([self.numbers[place] for place in found])


def _bits(numbers):
    told = 0
    for number in numbers:
        told = told | (1 << number)
    return told


def _has(told, number):
    return (told >> number) & 1 == 1


def _marks(told):
    """The numbers of the bits that are there."""
    return [number for number in range(told.bit_length()) if _has(told, number)]
