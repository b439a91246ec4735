"""Books: lemmas that are told, or shown by deductions that cite lemmas ahead of them."""

from allrows.claims import failing_rows, is_claim, is_deduction
from allrows.deductions import deduction_of, filled
from allrows.errors import InvalidBook, NoName
from allrows.houses import House
from allrows.looker import deduction_holds
from allrows.values import copied, is_name, is_sequence, is_tuple_of
from allrows.whys import told_name


class Book:
    """A house, and lemmas: triples of a name, a claim, and the lines of a deduction, or None for a told claim."""

    def __init__(self, house, lemmas=()):
        if not isinstance(house, House):
            raise InvalidBook("house")
        if not _are_lemmas(lemmas, house):
            raise InvalidBook("lemmas")
        self.house = house
        self.lemmas = tuple([(name, claim, _copied_lines(lines)) for name, claim, lines in lemmas])
        self._by_name = {lemma[0]: lemma for lemma in self.lemmas}

    @property
    def names(self):
        return tuple([name for name, claim, lines in self.lemmas])

    def has_lemma(self, name):
        """Whether any value is the name of a lemma."""
        return isinstance(name, str) and name in self._by_name

    def claim_of(self, name):
        self.check_name(name)
        return self._by_name[name][1]

    def lines_of(self, name):
        """The lines of a lemma's deduction, None if it is told."""
        self.check_name(name)
        return self._by_name[name][2]

    def check_name(self, name):
        if not self.has_lemma(name):
            raise NoName(name)

    def ahead_of(self, name):
        """The lemmas that stand ahead of the one with this name."""
        return self.lemmas[:self.names.index(name)]

    def having(self, name, claim, lines):
        """The book with this lemma in the place of the one with this name, or at its end."""
        lemma = (name, claim, lines)
        if not self.has_lemma(name):
            return Book(self.house, [*self.lemmas, lemma])
        return Book(self.house, [lemma if own[0] == name else own for own in self.lemmas])

    def without(self, name):
        """The book without this lemma, and without all that cite it, or cite one that goes."""
        self.check_name(name)
        gone = {name: True}
        for own, _, lines in self.lemmas:
            if any([cited in gone for cited in cited_names(lines)]):
                gone[own] = True
        return Book(self.house, [lemma for lemma in self.lemmas if lemma[0] not in gone])

    def told_only(self, name):
        """The book in which this lemma is told."""
        return self.having(name, self.claim_of(name), None)

    def __len__(self):
        return len(self.lemmas)

    def __eq__(self, other):
        return isinstance(other, Book) and self.house == other.house and self.lemmas == other.lemmas


def _are_lemmas(value, house):
    if not is_sequence(value):
        return False
    ahead = {}
    for lemma in value:
        if not _is_lemma(lemma, house) or lemma[0] in ahead:
            return False
        if not all([name in ahead for name in cited_names(lemma[2])]):
            return False
        ahead[lemma[0]] = True
    return True


def _is_lemma(value, house):
    if not is_tuple_of(value, 3) or not is_name(value[0]) or not is_claim(value[1], house):
        return False
    return value[2] is None or is_deduction(value[2], house)


def _copied_lines(lines):
    """The lines, so that no later change of a list in a why (which may be any value) changes them."""
    return None if lines is None else tuple([(claim, copied(why)) for claim, why in lines])


def cited_names(lines):
    """The names that the whys of a deduction cite, in the order in which they come first."""
    if lines is None:
        return ()
    names = [told_name(why) for claim, why in lines]
    return tuple(list({name: True for name in names if name is not None}))


def wrong(book):
    """The names of the lemmas that are not right, in order."""
    return tuple([name for name in book.names if not _is_right(book, name)])


def _is_right(book, name):
    """Whether a lemma is told, or its lines are a deduction of it from the claims ahead."""
    lines = book.lines_of(name)
    if lines is None:
        return True
    told = [(own, claim) for own, claim, _ in book.ahead_of(name)]
    return deduction_holds(book.claim_of(name), lines, told)


def untrue(book):
    """The pairs of name and failing rows of the lemmas whose claims are not true, in order."""
    failing = [(name, failing_rows(claim)) for name, claim, _ in book.lemmas]
    return tuple([(name, rows) for name, rows in failing if rows is not None])


def guilty(book):
    """The name of the first untrue lemma that is told or not right, or None."""
    for name, _ in untrue(book):
        if book.lines_of(name) is None or not _is_right(book, name):
            return name
    return None


def whole_lines(book, name):
    """The lines of a lemma, with those of all lemmas on which it hangs put in; none for a told one."""
    lines = book.lines_of(name)
    if lines is None:
        return ()
    for own, _, further in book.ahead_of(name)[::-1]:
        if further is not None and own in cited_names(lines):
            lines = filled(lines, own, further)
    return lines


def mended_book(book):
    """The book of all lemmas that are true; those that are not right, or cite one that goes, are shown anew."""
    left = {}
    for name, claim, lines in book.lemmas:
        if failing_rows(claim) is None:
            is_good = _is_right(book, name) and all([cited in left for cited in cited_names(lines)])
            left[name] = (name, claim, lines if is_good else deduction_of(claim))
    return Book(book.house, list(left.values()))


def both_books(one, other):
    """The lemmas of both books; told ones get the lines that the other book has, if they cite what stands ahead."""
    if not one.house == other.house:
        raise InvalidBook("house")
    if any([one.has_lemma(name) and not one.claim_of(name) == claim for name, claim, _ in other.lemmas]):
        raise InvalidBook("lemmas")
    lemmas = [(name, claim, _lines_from_both(one, other, name)) for name, claim, _ in one.lemmas]
    return Book(one.house, lemmas + [lemma for lemma in other.lemmas if not one.has_lemma(lemma[0])])


def _lines_from_both(one, other, name):
    """The lines of a lemma of the one book, or else those of the other one if they stay right there."""
    lines = one.lines_of(name)
    if lines is not None or not other.has_lemma(name):
        return lines
    ahead = [own for own, _, _ in one.ahead_of(name)]
    further = other.lines_of(name)
    return further if all([cited in ahead for cited in cited_names(further)]) else None
