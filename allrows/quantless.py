"""Taking "for all" and "for some" out of sayings."""

from allrows.choosing import all_choices
from allrows.hearing import heard_sights
from allrows.judging import judge_of
from allrows.naming import new_names
from allrows.readers import Reader
from allrows.sayings import Saying, inner_sayings, is_atom, is_quantified, peeled
from allrows.placing import walked_points
from allrows.terms import Term


def unquantified(saying):
    """Some saying without quantifiers, and without other free names, that holds for the same rows."""
    house, names = _house_from_all_marks(saying)
    return _without_quantifiers(saying, house, names)


def _house_from_all_marks(saying):
    """The house with further readers that begin at other marks, and the names of readers by name and first mark."""
    house = saying.house
    names = {}
    for name, own in _heard_readers(saying):
        others = [mark for mark in own.marks if mark != own.first]
        names[(name, own.first)] = name
        for mark, new in zip(others, new_names(len(others), house.names)):
            house = house.having(new, Reader(own.signs, own.marks, mark, own.steps))
            names[(name, mark)] = new
    return (house, names)


def _heard_readers(saying):
    """The readers, with their names, with which parts with a quantifier hear their free names; equal ones once."""
    heard = []
    for part in _quantified_parts(saying):
        for sight in heard_sights(part).values():
            heard.extend([reader for reader, change, is_back in sight.parts])
    found = []
    for name, own in saying.house.readers:
        if own in heard and own not in [reader for _, reader in found]:
            found.append((name, own))
    return found


def _quantified_parts(saying):
    """The parts with a quantifier that are in no other such part."""
    found = []
    waiting = [saying]
    while waiting:
        part, _ = peeled(waiting.pop())
        if is_quantified(part.form):
            found.append(part)
        elif not is_atom(part.form):
            waiting.extend(inner_sayings(part.form))
    return found


def _without_quantifiers(saying, house, names):
    part, many = peeled(saying)
    form = part.form
    if is_atom(form):
        told = Saying(house, form)
    elif is_quantified(form):
        told = _told_by_points(part, house, names)
    else:
        one = _without_quantifiers(form[1], house, names)
        told = Saying(house, (form[0], one, _without_quantifiers(form[2], house, names)))
    for _ in range(many):
        told = Saying(house, ("not", told))
    return told


def _told_by_points(part, house, names):
    """A saying of the points of the free names at which a part with a quantifier holds."""
    sights = heard_sights(part)
    judge = judge_of(part, sights)
    placed = [walked_points(sight.placing)[0] for sight in sights.values()]
    truths = [judge.holds_at(dict(zip(sights, choice))) for choice in all_choices(placed)]
    seen = [
        (name, sight, [sight.placing.marked(point) for point in points])
        for (name, sight), points in zip(sights.items(), placed)
    ]
    told = PointTeller(part.house, house, names).told(seen, tuple(truths))
    if told is None:
        sure = _first_atom(house, Term([]))
        told = sure if truths[0] else sure.negated()
    return _naming_all(told, part.names)


def _first_atom(house, term):
    """That the first reader comes to its first mark: so it does by the empty row."""
    name, reader = house.readers[0]
    return Saying(house, ("is", name, term, reader.first))


def _naming_all(told, names):
    """The saying, and what always holds of the names that it has not: so that its free names stay the same."""
    house = told.house
    for name in names:
        if name not in told.names:
            atom = _first_atom(house, Term.of_name(name))
            told = Saying(house, ("and", told, Saying(house, ("or", atom, atom.negated()))))
    return told


class PointTeller:
    """Makes sayings that hold at told points of names: readers that begin at each mark tell the points."""

    def __init__(self, given, house, names):
        self.given = given
        self.house = house
        self.reader_names = names

    def told(self, seen, truths):
        """The saying that holds at the choices of points that are true, None if all of them are, or none is.

        seen has for each name the name, its sight and its points; truths are those of all choices of points, in order.
        """
        if all([truth == truths[0] for truth in truths]):
            return None
        many = len(truths) // len(seen[0][2])
        blocks = [truths[at:at + many] for at in range(0, len(truths), many)]
        return self._parted(seen, list(zip(seen[0][2], blocks)))

    def _parted(self, seen, pairs):
        """The saying for some points of the first name, each with the truths that hang on it."""
        if all([block == pairs[0][1] for point, block in pairs]):
            return self.told(seen[1:], pairs[0][1])
        question = _best_question(seen[0][1], [point for point, block in pairs])
        yes = [pair for pair in pairs if _answers(question, pair[0])]
        no = [pair for pair in pairs if not _answers(question, pair[0])]
        atom = self._atom(seen[0][0], seen[0][1], question)
        return self._either_way(atom, self._branch(seen, yes), self._branch(seen, no))

    def _branch(self, seen, pairs):
        """The saying for some points of the first name, and the first of their truths."""
        return (self._parted(seen, pairs), pairs[0][1][0])

    def _either_way(self, atom, yes, no):
        """The saying that goes on by whether the atom holds; each way is a saying, or None, and what holds then."""
        contrary = atom.negated()
        if yes[0] is None and no[0] is None:
            return atom if yes[1] else contrary
        if yes[0] is None:
            return self._joined("or", atom, no[0]) if yes[1] else self._joined("and", contrary, no[0])
        if no[0] is None:
            return self._joined("or", contrary, yes[0]) if no[1] else self._joined("and", atom, yes[0])
        return self._joined("or", self._joined("and", atom, yes[0]), self._joined("and", contrary, no[0]))

    def _joined(self, word, one, other):
        return Saying(self.house, (word, one, other))

    def _atom(self, name, sight, question):
        at, number, mark = question
        reader, change, is_back = sight.parts[at]
        own = [told for told, other in self.given.readers if other == reader][0]
        begin = self.reader_names[(own, reader.marks[number])]
        return Saying(self.house, ("is", begin, Term([("name", name, is_back, change)]), mark))


def _answers(question, point):
    """Whether a point has this mark behind that one: a question is the number of a part and that of a mark, a mark."""
    at, number, mark = question
    return point[at][number] == mark


def _best_question(sight, points):
    """The question that cuts the points into parts as alike in size as possible: few stand in one another then."""
    best = None
    least = len(points)
    for at, (reader, _, _) in enumerate(sight.parts):
        for number in range(len(reader.marks)):
            told = [point[at][number] for point in points]
            for mark in reader.marks:
                unlike = abs(len(points) - 2 * told.count(mark))
                if unlike < least:
                    best = (at, number, mark)
                    least = unlike
    return best
