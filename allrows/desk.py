"""Desks: live books that are spoken to by commands."""

from allrows.books import Book
from allrows.deciding import fails
from allrows.errors import InvalidCommand
from allrows.houses import House
from allrows.live import Live
from allrows.sayings import Saying
from allrows.values import is_name


class Desk:
    """Takes commands, and keeps a live book."""

    def __init__(self):
        self.live = None

    def say(self, command):
        """The text that answers a command."""
        words = _words_of(command)
        if words[0] == "house":
            self.live = Live(Book(_house_of(words[1:])))
            return str(len(self.live.book.house.names))
        if self.live is None:
            raise InvalidCommand()
        action = _ACTIONS[words[0]]
        return action(self.live, words[1:])


def _words_of(command):
    """The words of a command that has one of the forms."""
    if not isinstance(command, str) or "\n" in command:
        raise InvalidCommand()
    words = command.split(" ")
    if words[0] not in _FORMS or not _has_form(words[1:], _FORMS[words[0]]):
        raise InvalidCommand()
    # only in the text of a house two blanks may stand side by side
    if "" in words and words[0] != "house":
        raise InvalidCommand()
    return words


def _has_form(words, form):
    """Whether words are so many, and names where names have to be."""
    is_text = form[-1:] == ("text",)
    if len(words) < len(form) or (len(words) > len(form) and not is_text):
        return False
    return all([kind != "name" or is_name(word) for kind, word in zip(form, words)])


def _house_of(words):
    return House.parse(" ".join(words).replace(" ; ", "\n"))


def _saying_of(live, words):
    return Saying.parse(live.book.house, " ".join(words))


def _row_of(word):
    return "" if word == "-" else word


def _text_of_row(row):
    return "-" if row == "" else row


def _told_rows(rows):
    """The text of failing rows."""
    if len(rows) == 0:
        return "always"
    return " ".join([f"{name}={_text_of_row(row)}" for name, row in rows])


def _told_names(names):
    return "-" if len(names) == 0 else " ".join(names)


def _show(live, words):
    rows = live.show(words[0], _saying_of(live, words[1:]))
    return "shown" if rows is None else _told_rows(rows)


def _take(live, words):
    live.take(words[0], _saying_of(live, words[1:]))
    return "taken"


def _drop(live, words):
    return _told_names(live.drop(words[0]))


def _tell_names(live, words):
    return _told_names(live.book.names)


def _decide(live, words):
    rows = fails(_saying_of(live, words))
    return "yes" if rows is None else _told_rows(rows)


def _read(live, words):
    return live.book.house.reader_of(words[0]).read(_row_of(words[1]))


def _add_up(live, words):
    return str(live.book.house.count_of(words[0]).of(_row_of(words[1])))


def _undo(live, words):
    return "undone" if live.undo() else "nothing"


_FORMS = {
    "house": ("text",),
    "show": ("name", "text"),
    "take": ("name", "text"),
    "drop": ("name",),
    "names": (),
    "holds": ("text",),
    "read": ("name", "row"),
    "count": ("name", "row"),
    "undo": (),
}
_ACTIONS = {
    "show": _show,
    "take": _take,
    "drop": _drop,
    "names": _tell_names,
    "holds": _decide,
    "read": _read,
    "count": _add_up,
    "undo": _undo,
}
