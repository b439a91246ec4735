"""Which lemmas of a book hang on which."""

from allrows.books import Book, cited_names, untrue


def cites(book, name):
    """The names that the deduction of a lemma cites."""
    return tuple(sorted(list(cited_names(book.lines_of(name)))))


def hangs_on(book, name):
    """All lemmas that a lemma cites, that these cite, and so on."""
    return _lot_without(_all_below(book, [name]), name)


def bears(book, name):
    """All lemmas that hang on a lemma."""
    return _lot_without(_all_above(book, [name]), name)


def _lot_without(found, name):
    """The lot of what is found but this name: no lemma hangs on itself."""
    return tuple(sorted([own for own in found if own != name]))


def _all_below(book, names):
    """These lemmas and all on which they hang, as a dict."""
    check_names(book, names)
    found = {}
    for own, _, lines in book.lemmas[::-1]:
        # whatever cites a lemma stands behind it
        if own in names or own in found:
            found[own] = True
            for cited in cited_names(lines):
                found[cited] = True
    return found


def _all_above(book, names):
    """These lemmas and all that hang on them, as a dict."""
    check_names(book, names)
    found = {}
    for own, _, lines in book.lemmas:
        if own in names or any([cited in found for cited in cited_names(lines)]):
            found[own] = True
    return found


def check_names(book, names):
    for name in names:
        book.check_name(name)


def taken_out(book, names):
    """The book without these lemmas and without all that hang on any of them."""
    gone = _all_above(book, names)
    return Book(book.house, [lemma for lemma in book.lemmas if lemma[0] not in gone])


def kept_for(book, names):
    """The book of these lemmas and of all on which they hang."""
    left = _all_below(book, names)
    return Book(book.house, [lemma for lemma in book.lemmas if lemma[0] in left])


def tainted(book):
    """The lemmas that are told and not true, and all that hang on such."""
    return tuple(sorted(list(_all_above(book, [name for name, _ in untrue(book) if book.lines_of(name) is None]))))


def rests(book):
    """The told lemmas on which no other one hangs."""
    cited = [own for _, _, lines in book.lemmas for own in cited_names(lines)]
    return tuple(sorted([name for name, _, lines in book.lemmas if lines is None and name not in cited]))
