"""Live books: they go on by deeds, which can be taken back."""

from allrows.books import mended_book
from allrows.claims import failing_rows
from allrows.deductions import deduction_of
from allrows.errors import Refused
from allrows.hangs import taken_out
from allrows.looker import first_wrong


class Live:
    """A book that goes on, and the books that were ahead of its deeds."""

    def __init__(self, book):
        self._book = book
        self._past = ()

    @property
    def book(self):
        return self._book

    def show(self, name, claim):
        """Put a lemma that is shown by itself; if it is not true, the failing rows are returned instead."""
        self._check(name, claim, None)
        rows = failing_rows(claim)
        if rows is None:
            self._go_on(self._book.having(name, claim, deduction_of(claim)))
        return rows

    def take(self, name, claim):
        """Put a told lemma."""
        self._go_on(self._check(name, claim, None))

    def put(self, name, claim, lines):
        """Put a lemma with these lines, which have to be right, or a told one for None."""
        book = self._check(name, claim, lines)
        if lines is not None:
            wrong = first_wrong(lines, [(own, told) for own, told, _ in book.ahead_of(name)])
            if wrong is not None:
                raise Refused(wrong)
            if not lines[-1][0] == claim:
                raise Refused(len(lines))
        self._go_on(book)

    def drop(self, name):
        """Take a lemma out, with all that hang on it: the names that went."""
        return self._leave(taken_out(self._book, [name]))

    def mend(self):
        """Mend the book: the names that went."""
        return self._leave(mended_book(self._book))

    def undo(self):
        """Take back the last deed: whether there was one."""
        if len(self._past) == 0:
            return False
        self._book = self._past[-1]
        self._past = self._past[:-1]
        return True

    def within(self, work):
        """What work(live) returns; behind it all is as it was ahead."""
        book = self._book
        past = self._past
        try:
            return work(self)
        finally:
            self._book = book
            self._past = past

    def __len__(self):
        return len(self._past)

    def _check(self, name, claim, lines):
        """The book with this lemma, if it may be put."""
        book = self._book.having(name, claim, lines)
        if self._book.has_lemma(name) and not self._book.claim_of(name) == claim:
            raise Refused(self._book.names.index(name))
        return book

    def _go_on(self, book):
        self._past = (*self._past, self._book)
        self._book = book

    def _leave(self, book):
        """Go on with a book of fewer lemmas: the names that went."""
        gone = tuple([name for name in self._book.names if not book.has_lemma(name)])
        self._go_on(book)
        return gone
