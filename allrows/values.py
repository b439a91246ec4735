"""What can be asked of any value: whether it is an integer, a row, a name and the like."""

_LETTERS = "abcdefghijklmnopqrstuvwxyz"
_NO_NAMES = ("back", "is", "not", "and", "or", "if", "then", "for", "all", "some")


def is_integer(value):
    return isinstance(value, int) and not isinstance(value, bool)


def is_sequence(value):
    return isinstance(value, (list, tuple))


def is_tuple_of(value, many):
    """Whether a value is a tuple of so many things (a pair, a triple)."""
    return isinstance(value, tuple) and len(value) == many


def is_letters(value):
    """Whether a value is a row of whatever signs."""
    return is_row(value, _LETTERS)


def is_signs(value):
    if not is_letters(value) or len(value) < 1 or len(value) > 3:
        return False
    return all([one < other for one, other in zip(value, value[1:])])


def is_row(value, signs):
    return isinstance(value, str) and value.strip(signs) == ""


def is_rows(value, signs):
    """Whether a value is a sequence of rows of these signs."""
    return is_sequence(value) and all([is_row(row, signs) for row in value])


def is_name(value):
    return isinstance(value, str) and 2 <= len(value) <= 6 and is_letters(value) and value not in _NO_NAMES


def row_order(row):
    """The key by which a lesser row stands ahead of a greater one."""
    return (len(row), row)


def is_digits(text):
    """Whether a text is a number without leading zeros."""
    if text == "" or not all(["0" <= digit <= "9" for digit in text]):
        return False
    return text == "0" or text[0] != "0"


def is_integer_text(text):
    """Whether a text is an integer without leading zeros, and not -0."""
    if text.startswith("-"):
        return text != "-0" and is_digits(text[1:])
    return is_digits(text)


def copied(value):
    """A value that is equal, and in which no list is one of those in the value."""
    if isinstance(value, list):
        return [copied(thing) for thing in value]
    if isinstance(value, tuple) and _has_list(value):
        return tuple([copied(thing) for thing in value])
    return value


def _has_list(value):
    if isinstance(value, tuple):
        return any([_has_list(thing) for thing in value])
    return isinstance(value, list)
