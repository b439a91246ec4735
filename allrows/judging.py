"""Judging sayings at points of their free names, and trees that show what is judged."""

from allrows.hearing import heard_sight, placed_in, point_in, points_of_sight
from allrows.sayings import is_atom, is_quantified, peeled, readings_of
from allrows.sights import lot_closed
from allrows.values import is_integer, is_row, is_tuple_of


class Judge:
    """Tells at placed points whether a saying holds: that is if its node is true, or if it is not."""

    def __init__(self, node, is_told_true):
        self.node = node
        self.is_told_true = is_told_true

    def turned_judge(self):
        """The judge of the contrary."""
        return Judge(self.node, not self.is_told_true)

    def holds_at(self, points):
        return self.node.is_true(points) == self.is_told_true

    def tree_at(self, points, is_holding):
        """The tree that shows that the saying holds, or that it does not, which has to be so."""
        return self.node.tree_of(points, is_holding == self.is_told_true)

    def is_tree_at(self, points, is_holding, value):
        """Whether any value is a tree that shows that the saying holds, or that it does not."""
        return self.node.is_tree_of(points, is_holding == self.is_told_true, value)


def judge_of(saying, sights):
    """The judge of a saying, its free names being seen with these sights."""
    inner, many = peeled(saying)
    if is_atom(inner.form):
        node = Atom(inner, sights)
    elif is_quantified(inner.form):
        node = Quantified(inner, sights)
    else:
        node = Joined(inner, sights)
    return Judge(node, many % 2 == 0)


class Reading:
    """A reader that reads a term."""

    def __init__(self, reader, term, sights):
        self.marks = reader.marks
        self.first = reader.number_of(reader.first)
        self.ways = [_way_of_part(reader, part, sights) for part in term.parts]

    def end_at(self, points):
        """The mark to which the row of the term leads."""
        number = self.first
        for name, begin, told in self.ways:
            number = points[name][begin + number] - begin if told is None else told[number]
        return self.marks[number]


def _way_of_part(reader, part, sights):
    """A name, the first place in its sight, and None; or None, 0 and where a plain row leads each mark, by numbers."""
    if part[0] == "row":
        return (None, 0, reader.numbers_led(part[1]))
    return (part[1], sights[part[1]].placing.begin_of((reader, part[3], part[2])), None)


class Atom:
    """One reader and a mark, or two readers."""

    def __init__(self, saying, sights):
        form = saying.form
        house = saying.house
        self.readings = [Reading(house.reader_of(name), term, sights) for name, term in readings_of(form)]
        self.mark = form[3] if form[0] == "is" else None

    def is_true(self, points):
        end = self.readings[0].end_at(points)
        if self.mark is not None:
            return end == self.mark
        return end == self.readings[1].end_at(points)

    def tree_of(self, points, is_holding):
        return ()

    def is_tree_of(self, points, is_holding, value):
        return value == () and self.is_true(points) == is_holding


class Joined:
    """Two sayings, both of which have to hold (and), or one of which (or, if)."""

    def __init__(self, saying, sights):
        word, one, other = saying.form
        first = judge_of(one, sights)
        self.is_and = word == "and"
        self.judges = [first.turned_judge() if word == "if" else first, judge_of(other, sights)]

    def is_true(self, points):
        for judge in self.judges:
            if judge.holds_at(points) != self.is_and:
                return not self.is_and
        return self.is_and

    def tree_of(self, points, is_holding):
        if is_holding == self.is_and:
            return tuple([judge.tree_at(points, is_holding) for judge in self.judges])
        number = 0 if self.judges[0].holds_at(points) == is_holding else 1
        return (number, self.judges[number].tree_at(points, is_holding))

    def is_tree_of(self, points, is_holding, value):
        if not is_tuple_of(value, 2):
            return False
        if is_holding == self.is_and:
            one, other = self.judges
            return one.is_tree_at(points, is_holding, value[0]) and other.is_tree_at(points, is_holding, value[1])
        if not is_integer(value[0]) or value[0] not in (0, 1):
            return False
        return self.judges[value[0]].is_tree_at(points, is_holding, value[1])


class Quantified:
    """A saying for all rows of a name, or for some."""

    def __init__(self, saying, sights):
        word, name, inner = saying.form
        self.is_all = word == "all"
        self.name = name
        self.free = saying.names
        self.signs = saying.house.signs
        self.sight = heard_sight(inner, name)
        self.pairs = points_of_sight(self.sight)
        inner_sights = dict(sights)
        inner_sights[name] = self.sight
        self.judge = judge_of(inner, inner_sights)
        self.found = {}
        self.trees = {}

    def is_true(self, points):
        return (self._turning_pair(points) is None) == self.is_all

    def _turning_pair(self, points):
        """The first point, with its row, that alone decides, None if there is none.

        This is one at which the inner saying does not hold if it has to for all, at which it does if for some.
        """
        key = self._key(points)
        if key not in self.found:
            self.found[key] = self._searched_pair(points)
        return self.found[key]

    def _searched_pair(self, points):
        inner = dict(points)
        for pair in self.pairs:
            inner[self.name] = pair[0]
            if self.judge.holds_at(inner) != self.is_all:
                return pair
        return None

    def _key(self, points):
        return tuple([points[name] for name in self.free])

    def _with_point(self, points, point):
        inner = dict(points)
        inner[self.name] = point
        return inner

    def tree_of(self, points, is_holding):
        # a name may be bound within itself: then the same tree stands at many points
        key = self._key(points)
        if key not in self.trees:
            self.trees[key] = self._made_tree(points, is_holding)
        return self.trees[key]

    def _made_tree(self, points, is_holding):
        if is_holding != self.is_all:
            point, row = self._turning_pair(points)
            return ("row", row, self.judge.tree_at(self._with_point(points, point), is_holding))
        lot = sorted([(self._marked(point), point) for point, row in self.pairs])
        trees = [self.judge.tree_at(self._with_point(points, point), is_holding) for _, point in lot]
        return ("lot", tuple([marked for marked, point in lot]), tuple(trees))

    def _marked(self, point):
        return () if self.sight is None else self.sight.placing.marked(point)

    def is_tree_of(self, points, is_holding, value):
        if not is_tuple_of(value, 3):
            return False
        word, told, shown = value
        if is_holding != self.is_all:
            if word != "row" or not is_row(told, self.signs):
                return False
            inner = self._with_point(points, point_in(self.sight, told))
            return self.judge.is_tree_at(inner, is_holding, shown)
        if word != "lot" or not self._is_lot(told) or not is_tuple_of(shown, len(told)):
            return False
        for point, tree in zip(told, shown):
            inner = self._with_point(points, placed_in(self.sight, point))
            if not self.judge.is_tree_at(inner, is_holding, tree):
                return False
        return True

    def _is_lot(self, value):
        """Whether any value is a lot of points that all signs keep."""
        if self.sight is None:
            return is_tuple_of(value, 1) and value[0] == ()
        if not lot_closed(self.sight, value):
            return False
        return all([one < other for one, other in zip(value, value[1:])])
