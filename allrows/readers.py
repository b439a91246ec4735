"""Readers: they read rows sign by sign and have a mark at each moment."""

from allrows.errors import InvalidReader, InvalidRow, InvalidText, NoMark
from allrows.values import is_name, is_row, is_sequence, is_signs
from allrows.walks import walked


class Reader:
    """Marks, the first one, and where each sign leads each of them."""

    def __init__(self, signs, marks, first, steps):
        if not is_signs(signs):
            raise InvalidReader("signs")
        if not _is_marks(marks):
            raise InvalidReader("marks")
        if first not in marks:
            raise InvalidReader("first")
        if not _is_steps(steps, signs, marks):
            raise InvalidReader("steps")
        self.signs = signs
        self.marks = tuple(marks)
        self.first = first
        self.steps = tuple([tuple(targets) for targets in steps])
        self._numbers = {mark: at for at, mark in enumerate(self.marks)}
        self._leads = {mark: dict(zip(signs, targets)) for mark, targets in zip(self.marks, self.steps)}
        self._columns = columns_of(signs, table_of(self))

    @classmethod
    def parse(cls, text):
        lines = lines_of_text(text)
        wrong = wrong_reader_line(lines)
        if wrong is not None:
            raise InvalidText(wrong)
        return reader_of_lines(lines)

    def led(self, mark, row):
        """The mark to which a row leads a mark."""
        if not is_mark(self, mark):
            raise NoMark(mark)
        if not is_row(row, self.signs):
            raise InvalidRow()
        for sign in row:
            mark = self._leads[mark][sign]
        return mark

    def read(self, row):
        return self.led(self.first, row)

    def number_of(self, mark):
        """The place of a mark among the marks."""
        return self._numbers[mark]

    def numbers_led(self, row):
        """For each mark, in order, the number of the one to which a row leads it."""
        if len(row) == 1:
            return self._columns[row]
        numbers = list(range(len(self.marks)))
        for sign in row:
            column = self._columns[sign]
            numbers = [column[number] for number in numbers]
        return tuple(numbers)

    def __eq__(self, other):
        return (
            isinstance(other, Reader)
            and self.signs == other.signs
            and self.marks == other.marks
            and self.first == other.first
            and self.steps == other.steps
        )

    def __str__(self):
        return "\n".join([f"reader {self.signs}", f"first {self.first}", *_lines_of_marks(self)])


def _lines_of_marks(reader):
    return [f"{mark}: {' '.join(targets)}" for mark, targets in zip(reader.marks, reader.steps)]


def is_mark(reader, value):
    return isinstance(value, str) and value in reader.marks


def table_of(reader):
    """For each mark the numbers of the marks to which the signs lead it."""
    return [[reader.number_of(mark) for mark in targets] for targets in reader.steps]


def columns_of(signs, table):
    """For each sign the tuple of what the rows of a table have at its place."""
    return {sign: tuple([things[at] for things in table]) for at, sign in enumerate(signs)}


def reached(reader):
    """The pairs of a mark and the least row that leads the first one to it."""
    table = table_of(reader)

    def lead(number, at):
        return table[number][at]

    rows = dict(walked(reader.signs, reader.number_of(reader.first), lead))
    return tuple([(mark, rows[at]) for at, mark in enumerate(reader.marks) if at in rows])


def lines_of_text(text):
    if not isinstance(text, str):
        raise InvalidText(0)
    return text.split("\n")


def reader_end(lines):
    """How many lines from the first one on can be those of a reader."""
    for at, line in enumerate(lines):
        if at == 0 and not is_told(line, "reader"):
            return at
        if at == 1 and not is_told(line, "first"):
            return at
        if at > 1 and _targets_of_line(line) is None:
            return at
    return len(lines)


def wrong_reader_line(lines):
    """The number of the first line that cannot stand where it does in a reader's text, or of the first missing one."""
    end = reader_end(lines)
    if end < 3 or end < len(lines):
        return end
    return None


def reader_of_lines(lines):
    """The reader that lines tell, all of which can be those of a reader."""
    told = [_targets_of_line(line) for line in lines[2:]]
    marks = [mark for mark, targets in told]
    steps = [targets for mark, targets in told]
    return Reader(lines[0].split(" ")[1], marks, lines[1].split(" ")[1], steps)


def marks_of_lines(lines):
    """The marks that such lines tell."""
    return [_targets_of_line(line)[0] for line in lines[2:]]


def is_told(line, word):
    """Whether a line is this word and any other one."""
    words = line.split(" ")
    return len(words) == 2 and words[0] == word and words[1] != ""


def _targets_of_line(line):
    """The mark that a line is of and the list of those to which it is led, None if it has not this form."""
    mark, colon, rest = line.partition(": ")
    targets = rest.split(" ")
    if colon == "" or not all([is_name(word) for word in [mark] + targets]):
        return None
    return (mark, targets)


def _is_marks(value):
    if not is_sequence(value) or len(value) == 0 or not all([is_name(mark) for mark in value]):
        return False
    return len(set(value)) == len(value)


def _is_steps(value, signs, marks):
    if not is_sequence(value) or len(value) != len(marks):
        return False
    return all([_is_targets(targets, signs, marks) for targets in value])


def _is_targets(value, signs, marks):
    if not is_sequence(value) or len(value) != len(signs):
        return False
    return all([mark in marks for mark in value])
