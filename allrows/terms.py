"""Terms: rows told from rows with names."""

from allrows.changes import Change, images_of_text
from allrows.errors import InvalidTerm, InvalidText, NoName
from allrows.values import is_letters, is_name, is_row, is_sequence


class Term:
    """Parts, one behind the other: plain rows, and names turned about or through changes."""

    def __init__(self, parts):
        if not is_sequence(parts):
            raise InvalidTerm(0)
        for at, part in enumerate(parts):
            if not _is_part(part):
                raise InvalidTerm(at)
        self.parts = _normal_form(parts)

    @classmethod
    def of_row(cls, row):
        return cls([("row", row)])

    @classmethod
    def of_name(cls, name):
        return cls([("name", name, False, None)])

    @classmethod
    def parse(cls, signs, text):
        if not isinstance(text, str):
            raise InvalidText(0)
        parts = []
        for at, piece in enumerate(text.split(" + ")):
            part = _part_of_text(signs, piece)
            if part is None:
                raise InvalidText(at)
            parts.append(part)
        return cls(parts)

    @property
    def names(self):
        return tuple(sorted(set([part[1] for part in self.parts if part[0] == "name"])))

    def back(self):
        """The term of the row turned about."""
        return Term([_turned_part(part) for part in self.parts[::-1]])

    def through(self, change):
        """The term of the row with each sign as its image."""
        return Term([_part_through(part, change) for part in self.parts])

    def put(self, name, term):
        """What this term tells if the other one's row stands for the name."""
        parts = []
        for part in self.parts:
            if part[0] == "name" and part[1] == name:
                parts.extend(_done_as(part, term).parts)
            else:
                parts.append(part)
        return Term(parts)

    def spelled(self, rows):
        """The row that the term tells if these rows stand for the names."""
        _check_keys(self.names, rows)
        return "".join([_spelled_part(part, rows) for part in self.parts])

    def counted(self, signs, tallies):
        """How often each sign stands in the row, told by how often it stands in the rows of the names."""
        _check_keys(self.names, tallies)
        tallied = [_counted_part(part, signs, tallies) for part in self.parts]
        return tuple([sum([tally[at] for tally in tallied]) for at in range(len(signs))])

    def __add__(self, other):
        if not isinstance(other, Term):
            return NotImplemented
        return Term(self.parts + other.parts)

    def __eq__(self, other):
        return isinstance(other, Term) and self.parts == other.parts

    def __str__(self):
        if self.parts == ():
            return "''"
        return " + ".join([_text_of_part(part) for part in self.parts])


def is_over(term, signs):
    """Whether the rows and changes of a term are over these signs."""
    return all([_is_part_over(part, signs) for part in term.parts])


def _is_part_over(part, signs):
    if part[0] == "row":
        return is_row(part[1], signs)
    return part[3] is None or part[3].signs == signs


def _is_part(value):
    if not isinstance(value, tuple) or len(value) not in (2, 4):
        return False
    if len(value) == 2:
        return value[0] == "row" and is_letters(value[1])
    change = value[3]
    if value[0] != "name" or not is_name(value[1]) or not isinstance(value[2], bool):
        return False
    return change is None or isinstance(change, Change)


def _normal_form(parts):
    kept = []
    for part in [_plainest(given) for given in parts]:
        if part == ("row", ""):
            continue
        if part[0] == "row" and kept and kept[-1][0] == "row":
            kept[-1] = ("row", kept[-1][1] + part[1])
        else:
            kept.append(part)
    return tuple(kept)


def _plainest(part):
    """The part itself, but a plain change as None, and an empty row for a part with a void change."""
    if part[0] == "row" or part[3] is None:
        return part
    if part[3].is_void:
        return ("row", "")
    if part[3].is_plain:
        return ("name", part[1], part[2], None)
    return part


def _turned_part(part):
    if part[0] == "row":
        return ("row", part[1][::-1])
    return ("name", part[1], not part[2], part[3])


def _part_through(part, change):
    if part[0] == "row":
        return ("row", change.of(part[1]))
    # the part is turned about behind its change, so the turned change is done ahead of that
    further = change.turned() if part[2] else change
    if part[3] is None:
        return ("name", part[1], part[2], further)
    return ("name", part[1], part[2], further * part[3])


def _done_as(part, term):
    """A term changed and turned about as the part with a name is."""
    done = term if part[3] is None else term.through(part[3])
    return done.back() if part[2] else done


def _check_keys(names, table):
    for name in names:
        if name not in table:
            raise NoName(name)


def _spelled_part(part, rows):
    if part[0] == "row":
        return part[1]
    row = rows[part[1]] if part[3] is None else part[3].of(rows[part[1]])
    return row[::-1] if part[2] else row


def _counted_part(part, signs, tallies):
    if part[0] == "row":
        return [part[1].count(sign) for sign in signs]
    tally = tallies[part[1]]
    if part[3] is None:
        return tally
    return [sum([many * image.count(sign) for many, image in zip(tally, part[3].rows)]) for sign in signs]


def _text_of_part(part):
    if part[0] == "row":
        return f"'{part[1]}'"
    text = part[1] if part[3] is None else f"{part[3]}({part[1]})"
    return f"back {text}" if part[2] else text


def _part_of_text(signs, text):
    """The part with a text, or None."""
    if text.startswith("'"):
        return _row_of_text(signs, text)
    is_back = text.startswith("back ")
    rest = text[5:] if is_back else text
    if not rest.startswith("["):
        return ("name", rest, is_back, None) if is_name(rest) else None
    images, between, ending = rest.partition("](")
    rows = images_of_text(signs, images + "]")
    if between == "" or rows is None or not ending.endswith(")") or not is_name(ending[:-1]):
        return None
    return ("name", ending[:-1], is_back, Change(signs, rows))


def _row_of_text(signs, text):
    if len(text) < 2 or not text.endswith("'") or not is_row(text[1:-1], signs):
        return None
    return ("row", text[1:-1])
