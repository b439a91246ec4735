"""All errors of the package."""


class RowError(ValueError):
    """The base class of the errors of this package, but for missing names and marks."""


class InvalidReader(RowError):
    """A reader cannot be made of these arguments."""

    def __init__(self, word):
        self.word = word


class InvalidChange(RowError):
    """A change cannot be made of these arguments."""

    def __init__(self, word):
        self.word = word


class InvalidTerm(RowError):
    """A term cannot be made of this: at is the index of the first thing that is no part."""

    def __init__(self, at):
        self.at = at


class InvalidCount(RowError):
    """A count cannot be made of these arguments."""

    def __init__(self, word):
        self.word = word


class InvalidSum(RowError):
    """A sum cannot be made of these arguments."""

    def __init__(self, word):
        self.word = word


class InvalidHouse(RowError):
    """A house cannot be made of these arguments."""

    def __init__(self, word):
        self.word = word


class InvalidSaying(RowError):
    """A saying cannot be made of this form."""

    def __init__(self, word):
        self.word = word


class InvalidSight(RowError):
    """A sight cannot be made of these arguments."""

    def __init__(self, word):
        self.word = word


class InvalidCondition(RowError):
    """A condition cannot be made of these arguments."""

    def __init__(self, word):
        self.word = word


class InvalidRules(RowError):
    """Rules cannot be made of these arguments."""

    def __init__(self, word):
        self.word = word


class InvalidBook(RowError):
    """A book cannot be made of these arguments."""

    def __init__(self, word):
        self.word = word


class InvalidLot(RowError):
    """A value is no lot of the reader's marks."""


class InvalidRow(RowError):
    """A value is no row of the reader's signs."""


class InvalidText(RowError):
    """A text cannot be read: at is the number of the line or part."""

    def __init__(self, at):
        self.at = at


class InvalidWord(RowError):
    """A value is none of the words that can stand here."""


class InvalidCommand(RowError):
    """A desk cannot take this command."""


class Mismatch(RowError):
    """Two things do not go together."""


class Bound(RowError):
    """A name is bound where a term with it would come to stand."""

    def __init__(self, name):
        self.name = name


class NoRow(RowError):
    """There is no row for this name."""

    def __init__(self, name):
        self.name = name


class Refused(RowError):
    """A live book does not take this: at is the number of the lemma or line."""

    def __init__(self, at):
        self.at = at


class NoName(KeyError):
    """There is nothing of this name."""

    def __init__(self, name):
        self.name = name


class NoMark(KeyError):
    """This is no mark of the reader."""

    def __init__(self, mark):
        self.mark = mark
