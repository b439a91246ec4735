"""Counts: they add integers as a reader reads."""

from allrows.errors import InvalidCount, InvalidText
from allrows.readers import Reader, columns_of, lines_of_text, marks_of_lines, reader_end, reader_of_lines
from allrows.values import is_integer, is_integer_text, is_sequence

_MOST_DIGITS = 9


class Count:
    """A reader, what it adds at each mark for each sign, and what is added at the end."""

    def __init__(self, reader, adds, ends):
        if not isinstance(reader, Reader):
            raise InvalidCount("reader")
        if not _is_adds(adds, reader):
            raise InvalidCount("adds")
        if not _is_integers(ends, len(reader.marks)):
            raise InvalidCount("ends")
        self.reader = reader
        self.adds = tuple([tuple(added) for added in adds])
        self.ends = tuple(ends)
        # for each sign what it adds at each mark
        self._columns = columns_of(reader.signs, self.adds)

    @classmethod
    def parse(cls, text):
        lines = lines_of_text(text)
        wrong = wrong_count_line(lines)
        if wrong is not None:
            raise InvalidText(wrong)
        return count_of_lines(lines)

    def led(self, mark, row):
        """The mark to which a row leads a mark, and what is added on the way."""
        last = self.reader.led(mark, row)
        number = self.reader.number_of(mark)
        amount = 0
        for sign in row:
            amount += self._columns[sign][number]
            number = self.reader.numbers_led(sign)[number]
        return (last, amount)

    def ways_led(self, row):
        """For each mark, in order, the number of the one to which a row leads it, and what is added on the way."""
        if len(row) == 1:
            return (self.reader.numbers_led(row), self._columns[row])
        numbers = self.reader.numbers_led("")
        amounts = tuple([0 for _ in numbers])
        for sign in row:
            column = self._columns[sign]
            targets = self.reader.numbers_led(sign)
            amounts = tuple([amount + column[number] for amount, number in zip(amounts, numbers)])
            numbers = tuple([targets[number] for number in numbers])
        return (numbers, amounts)

    def of(self, row):
        """The amount of a whole row."""
        mark, amount = self.led(self.reader.first, row)
        return amount + self.ends[self.reader.number_of(mark)]

    def __eq__(self, other):
        return (
            isinstance(other, Count)
            and self.reader == other.reader
            and self.adds == other.adds
            and self.ends == other.ends
        )

    def __str__(self):
        return "\n".join([str(self.reader), *_lines_of_adds(self)])


def wrong_count_line(lines):
    """The number of the first line that cannot stand where it does in a count's text, or of the first missing one."""
    end = reader_end(lines)
    if end < 3:
        return end
    marks = marks_of_lines(lines[:end])
    for at, mark in enumerate(marks, start=end):
        if at == len(lines) or _added_of_line(lines[at], mark) is None:
            return at
    return None if end + len(marks) == len(lines) else end + len(marks)


def count_of_lines(lines):
    """The count that lines tell, none of which is wrong."""
    end = reader_end(lines)
    reader = reader_of_lines(lines[:end])
    told = [_added_of_line(line, mark) for line, mark in zip(lines[end:], reader.marks)]
    return Count(reader, [added for added, ending in told], [ending for added, ending in told])


def _lines_of_adds(count):
    lines = []
    for mark, added, end in zip(count.reader.marks, count.adds, count.ends):
        told = " ".join([str(number) for number in added])
        lines.append(f"add {mark}: {told} end {end}")
    return lines


def _is_adds(value, reader):
    if not is_sequence(value) or len(value) != len(reader.marks):
        return False
    return all([_is_integers(added, len(reader.signs)) for added in value])


def _is_integers(value, many):
    return is_sequence(value) and len(value) == many and all([is_integer(number) for number in value])


def _added_of_line(line, mark):
    """The list of the integers and the one at the end that a line tells for this mark, or None."""
    head, _, rest = line.partition(": ")
    words = rest.split(" ")
    if head != f"add {mark}" or len(words) < 3 or words[-2] != "end":
        return None
    numbers = words[:-2] + words[-1:]
    if not all([_is_short_integer(word) for word in numbers]):
        return None
    return ([int(word) for word in words[:-2]], int(words[-1]))


def _is_short_integer(text):
    return is_integer_text(text) and len(text.removeprefix("-")) <= _MOST_DIGITS
