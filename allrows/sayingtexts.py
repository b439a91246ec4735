"""Reading the texts of sayings."""

from allrows.errors import InvalidText
from allrows.terms import Term
from allrows.values import is_name

def steps_of_text(signs, text):
    """The steps by which the saying with a text is made: InvalidText(0) if it is none.

    A step is the form of a saying, but without the sayings in it: these are what the steps ahead have made last.
    """
    if not isinstance(text, str):
        raise InvalidText(0)
    steps = []
    waiting = []
    at = 0
    # a list of what is still open, and no calls within calls: brackets may stand deep within one another
    while True:
        opened = _opened_at(text, at)
        if opened is not None:
            step, at = opened
            waiting.append(step)
            continue
        step, at = _atom_at(signs, text, at)
        steps.append(step)
        at = _closed_at(text, at, waiting, steps)
        if not waiting:
            break
    if at < len(text):
        raise InvalidText(0)
    return steps


def _opened_at(text, at):
    """What a saying begins with at this place ahead of a saying within it, and the place behind, or None."""
    if text.startswith("not ", at):
        return (("not",), at + 4)
    if text.startswith("for all ", at):
        return _quantifier_at(text, at + 8, "all")
    if text.startswith("for some ", at):
        return _quantifier_at(text, at + 9, "some")
    if text.startswith("( if ", at):
        return (("( if",), at + 5)
    if text.startswith("( ", at):
        return (("(",), at + 2)
    return None


def _quantifier_at(text, at, word):
    """A quantifier whose name stands at this place, and the place behind the blank that follows."""
    name, end = _name_at(text, at)
    return ((word, name), _behind(text, end, " "))


def _closed_at(text, at, waiting, steps):
    """The place from which a saying stands again, behind what goes on or ends here, or at which nothing waits."""
    while waiting:
        word = waiting[-1][0]
        if word == "( if":
            waiting[-1] = ("if",)
            return _behind(text, at, " then ")
        if word == "(":
            middle = "and" if text.startswith(" and ", at) else "or"
            waiting[-1] = (middle,)
            return _behind(text, at, f" {middle} ")
        if word in ("and", "or", "if"):
            at = _behind(text, at, " )")
        steps.append(waiting.pop())
    return at


def _atom_at(signs, text, at):
    reader, term, end = _reading_at(signs, text, at)
    behind = _behind(text, end, " is ")
    mark, end = _name_at(text, behind)
    if not text.startswith("(", end):
        return (("is", reader, term, mark), end)
    other, other_term, end = _reading_at(signs, text, behind)
    return (("same", reader, term, other, other_term), end)


def _reading_at(signs, text, at):
    """The name of a reader, the term behind it in brackets, and the place behind."""
    name, at = _name_at(text, at)
    begin = _behind(text, at, "(")
    end = text.find(")", begin)
    while end >= 0 and text.count("(", begin, end) > text.count(")", begin, end):
        end = text.find(")", end + 1)
    if end < 0:
        raise InvalidText(0)
    return (name, _term_of_text(signs, text[begin:end]), end + 1)


def _term_of_text(signs, text):
    try:
        return Term.parse(signs, text)
    except InvalidText:
        raise InvalidText(0) from None


def _name_at(text, at):
    end = at
    while end < len(text) and "a" <= text[end] <= "z":
        end += 1
    if not is_name(text[at:end]):
        raise InvalidText(0)
    return (text[at:end], end)


def _behind(text, at, word):
    """The place behind a word that has to stand here."""
    if not text.startswith(word, at):
        raise InvalidText(0)
    return at + len(word)
