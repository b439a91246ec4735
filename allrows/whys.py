"""The forms of whys: what stands behind their words, and the lines that they use."""

from allrows.terms import Term
from allrows.values import is_integer, is_name

_FORMS = {
    "told": ("name",),
    "tree": ("value",),
    "heights": ("value",),
    "put": ("line", "name", "term"),
    "cases": ("lines",),
    "alike": ("line",),
    "grow": ("name", "line", "lines"),
    "all": ("line",),
    "some": ("line", "term"),
    "weaker": ("line", "line"),
    "sum": ("line", "line"),
}


def is_why(value, at):
    """Whether any value has one of the forms, for the line with this number."""
    if not isinstance(value, tuple) or len(value) == 0 or not isinstance(value[0], str) or value[0] not in _FORMS:
        return False
    form = _FORMS[value[0]]
    if len(value) != len(form) + 1:
        return False
    return all([_is_of_kind(kind, thing, at) for kind, thing in zip(form, value[1:])])


def _is_of_kind(kind, value, at):
    if kind == "name":
        return is_name(value)
    if kind == "term":
        return isinstance(value, Term)
    if kind == "line":
        return _is_line(value, at)
    if kind == "lines":
        return isinstance(value, tuple) and all([_is_line(number, at) for number in value])
    return True


def _is_line(value, at):
    """Whether any value is the number of a line ahead."""
    return is_integer(value) and 0 <= value < at


def lines_of_why(why, at):
    """The numbers of the lines that a why of the line with this number uses at once."""
    if not is_why(why, at):
        return []
    numbers = []
    for kind, thing in zip(_FORMS[why[0]], why[1:]):
        if kind == "line":
            numbers.append(thing)
        elif kind == "lines":
            numbers.extend(thing)
    return numbers


def turned_why(why, at, places):
    """The why with other numbers of lines: places has for each number that is used the one that it turns to."""
    if not is_why(why, at):
        return why
    things = [why[0]]
    for kind, thing in zip(_FORMS[why[0]], why[1:]):
        if kind == "line":
            things.append(places[thing])
        elif kind == "lines":
            things.append(tuple([places[number] for number in thing]))
        else:
            things.append(thing)
    return tuple(things)


def told_name(why):
    """The name that a why tells, None if it is of another form."""
    return why[1] if is_why(why, 0) and why[0] == "told" else None
