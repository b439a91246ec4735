"""What told lemmas are enough for a lemma, by whichever deductions of a book; roads to lemmas, and their orders.

Lemmas with equal claims can stand for one another: claims are numbered, equal ones alike.
"""

from allrows.books import cited_names
from allrows.choosing import all_choices
from allrows.hangs import check_names
from allrows.hitting import least_hits, least_lots


class Claims:
    """The numbers of the claims of a book's lemmas, by their names, and of the claims that deductions cite."""

    def __init__(self, book):
        self.numbers = {}
        for at, (name, claim, _) in enumerate(book.lemmas):
            self.numbers[name] = [own == claim for _, own, _ in book.lemmas[:at + 1]].index(True)
        self.told_names = [name for name, _, lines in book.lemmas if lines is None]
        # for each lemma the pair of its number and the ascending list of those that it needs
        self.needs = {
            name: (self.numbers[name], sorted(set([self.numbers[cited] for cited in cited_names(lines)])))
            for name, _, lines in book.lemmas
        }
        self.deduced = [need for name, need in self.needs.items() if name not in self.told_names]

    def shown_by(self, names):
        """The numbers of all claims that are shown by told lemmas of these names, as a dict."""
        shown = {self.numbers[name]: True for name in names if name in self.told_names}
        many = -1
        while len(shown) > many:
            many = len(shown)
            for number, needed in self.deduced:
                if all([own in shown for own in needed]):
                    shown[number] = True
        return shown


def is_enough(book, name, names):
    """Whether the told lemmas among these are enough for a lemma."""
    check_names(book, [name, *names])
    claims = Claims(book)
    return claims.numbers[name] in claims.shown_by(names)


def bases(book, name):
    """All least lots of told lemmas that are enough for a lemma."""
    book.check_name(name)
    claims = Claims(book)
    return tuple(_all_bases(claims)[claims.numbers[name]])


def _all_bases(claims):
    """For each number of a claim the least lots that are enough for it."""
    found = {number: [] for number in claims.numbers.values()}
    for name in claims.told_names:
        found[claims.numbers[name]].append((name,))
    is_more = True
    while is_more:
        is_more = False
        for number, needed in claims.deduced:
            choices = all_choices([found[own] for own in needed])
            lots = least_lots(found[number] + [_joined_lot(choice) for choice in choices])
            if lots != found[number]:
                found[number] = lots
                is_more = True
    return {number: least_lots(lots) for number, lots in found.items()}


def _joined_lot(lots):
    return tuple(sorted(set([name for lot in lots for name in lot])))


def cuts(book, name):
    """All least lots of told lemmas without which the other told ones are not enough for a lemma."""
    # a lot is a cut exactly if it has something of each basis
    return tuple(least_hits(bases(book, name)))


def road_to(book, name):
    """Some shortest road to a lemma's claim."""
    book.check_name(name)
    claims = Claims(book)
    asked = claims.numbers[name]
    # which claims are shown is told by an integer: the bit with a claim's number is there if it is
    roads = {0: ()}
    waiting = [0]
    at = 0
    while not _has(waiting[-1], asked):
        shown = waiting[at]
        at += 1
        for own, (number, needed) in claims.needs.items():
            further = shown | (1 << number)
            if further not in roads and all([_has(shown, one) for one in needed]):
                roads[further] = (*roads[shown], own)
                waiting.append(further)
                if number == asked:
                    break
    return roads[waiting[-1]]


def _has(told, number):
    return (told >> number) & 1 == 1


def road_to_holds(book, name, value):
    """Whether any value is a road to a lemma's claim, of whatever length."""
    book.check_name(name)
    if not _is_tuple_of_names(book, value) or len(value) == 0:
        return False
    claims = Claims(book)
    shown = {}
    for own in value:
        number, needed = claims.needs[own]
        if not all([one in shown for one in needed]):
            return False
        shown[number] = True
    return claims.numbers[value[-1]] == claims.numbers[name]


def _is_tuple_of_names(book, value):
    """Whether any value is a tuple of unlike names of lemmas."""
    if not isinstance(value, tuple) or not all([book.has_lemma(name) for name in value]):
        return False
    return len(set(value)) == len(value)


def is_order(book, names):
    """Whether any value is a tuple of all names, each once, each lemma behind all that it cites."""
    if not _is_tuple_of_names(book, names) or len(names) != len(book):
        return False
    ahead = {}
    for name in names:
        if not all([cited in ahead for cited in cited_names(book.lines_of(name))]):
            return False
        ahead[name] = True
    return True


def orders(book):
    """How many such orders there are."""
    places = {name: at for at, name in enumerate(book.names)}
    needs = [[places[cited] for cited in cited_names(lines)] for _, _, lines in book.lemmas]
    # for each lot of lemmas that can stand ahead, told by an integer, in how many ways they can
    ways = {0: 1}
    for _ in needs:
        longer = {}
        for lot, many in ways.items():
            for at, needed in enumerate(needs):
                if not _has(lot, at) and all([_has(lot, own) for own in needed]):
                    further = lot | (1 << at)
                    longer[further] = longer.get(further, 0) + many
        ways = longer
    return sum(ways.values())
