"""Books of random lemmas, for several tests."""

from allrows.books import Book
from allrows.claims import shown_by_itself
from allrows.counts import Count
from allrows.houses import House
from allrows.readers import Reader
from allrows.sayings import Saying
from allrows.sums import Sum
from support import END, ODD

FLAT = Reader("ab", ["go"], "go", [["go", "go"]])
HALL = House("ab", [("odds", ODD), ("ends", END)], [("size", Count(FLAT, [[1, 1]], [0])), ("peak", Count(END, [[0, 0], [0, 1]], [0, 0]))])
NAMES = ("aa", "bb", "cc", "dd", "ee", "ff", "gg", "hh")


def said(text, house=HALL):
    return Saying.parse(house, text)


def bound(text, most, saying="ends(row) is ends(row)"):
    return ("bound", Sum.parse("ab", text), most, said(saying))


TRUE = [said("odds(row + row) is even"), said("odds(row) is odds(back row)"), said("odds('aa') is even"), bound("2 * peak(row) + -1 * size(row)", 0),
        said("for all row for some two odds(row + two) is odd")]
FALSE = [said("odds(row) is even"), said("ends('b') is yes"), bound("1 * size(row)", 7, "odds(row) is odd")]
BY_ITSELF = [(claim, shown_by_itself(claim)) for claim in TRUE]


def whys(chance, claim, ahead):
    """A why for a claim: right, or of some other kind."""
    names = [name for name, own in ahead if own == claim]
    if names and chance.random() < 0.7:
        return ("told", chance.choice(names))
    if chance.random() < 0.7:
        for own, why in BY_ITSELF:
            if own == claim:
                return why
    if ahead and chance.random() < 0.5:
        return ("told", chance.choice(ahead)[0])
    return chance.choice([("tree", ()), ("cases", ()), None, ["told", "aa"], ("told",), ("told", "aa", 0), ("told", 3), ("told", ["aa"]), ("told", "is"),
                          [["told"]]])


def random_lines(chance, claim, ahead):
    lines = []
    for _ in range(chance.choice((0, 0, 1, 1, 2, 3))):
        own = chance.choice(ahead)[1] if ahead and chance.random() < 0.8 else chance.choice(TRUE + FALSE)
        lines.append((own, whys(chance, own, ahead)))
    same = tuple(at for at, line in enumerate(lines) if line[0] == claim)
    last = chance.choice(TRUE) if chance.random() < 0.1 else claim
    lines.append((last, ("cases", same) if same and not isinstance(claim, tuple) and chance.random() < 0.7 else whys(chance, last, ahead)))
    return tuple(lines)


def random_lemmas(chance, most=8, claims=None):
    lemmas = []
    names = list(NAMES)
    chance.shuffle(names)
    for name in names[:chance.randint(0, most)]:
        claim = chance.choice(claims or TRUE + TRUE + FALSE)
        ahead = [(own, told) for own, told, _ in lemmas]
        lemmas.append((name, claim, None if chance.random() < 0.35 else random_lines(chance, claim, ahead)))
    return lemmas


def random_book(chance, most=8, claims=None):
    lemmas = random_lemmas(chance, most, claims)
    return Book(HALL, lemmas if chance.random() < 0.5 else tuple(lemmas))


def cited(lines):
    """The names that whys of the form ("told", NAME) cite, as a set."""
    return {why[1] for _, why in lines or () if isinstance(why, tuple) and len(why) == 2 and why[0] == "told" and isinstance(why[1], str) and why[1] != "is"}


def below(book, name):
    """All lemmas on which one hangs, as a set."""
    lines = dict((own, told) for own, _, told in book.lemmas)
    found = set()
    for own in cited(lines[name]):
        found |= {own} | below(book, own)
    return found
