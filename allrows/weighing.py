"""A sum and a saying: where its counts enter the rows of names, and what they add there."""

from allrows.choosing import all_choices
from allrows.hearing import heard_parts, heard_sight
from allrows.judging import judge_of
from allrows.sights import Sight, numbered_points


class Occurrence:
    """A part of a term of a sum with a name, and what signs at the end of the name's row lead to and add there."""

    def __init__(self, factor, count, part, signs):
        self.reader = count.reader
        self.is_back = part[2]
        self.part = (count.reader, part[3], part[2])
        self.ways = {sign: _ways_of_word(factor, count, _word(part, sign)) for sign in signs}


def _word(part, sign):
    """The row of one sign as a part tells it."""
    image = sign if part[3] is None else part[3].of(sign)
    return image[::-1] if part[2] else image


def _ways_of_word(factor, count, word):
    """For each mark the one to which a row leads it, and what is added on the way."""
    ways = {}
    for mark in count.reader.marks:
        target, amount = count.led(mark, word)
        ways[mark] = (target, factor * amount)
    return ways


class Scale:
    """A name: how a sum and a saying see it, and what the sum adds as its row grows."""

    def __init__(self, name, parts, occurrences, signs):
        self.name = name
        self.heard = len(parts)
        self.occurrences = occurrences
        self.sight = Sight(signs, [*parts, *[one.part for one in occurrences]])
        pairs, self.table = numbered_points(self.sight)
        self.listed = [point for point, row in pairs]
        self.least_rows = [row for point, row in pairs]
        self.number_of_point = {point: number for number, point in enumerate(self.listed)}

    def heard_point(self, point):
        """What the saying hears of a point."""
        return point[:self.heard]

    def heard_points(self, listed):
        """What the saying hears of all these points, each once."""
        return list({self.heard_point(point): True for point in listed})

    def came_of(self, entering, sign):
        """The entering that comes of this one if the sign at the end is left out."""
        return tuple([
            one.ways[sign][mark][0] if one.is_back else mark for one, mark in zip(self.occurrences, entering)
        ])

    def gained_by(self, point, entering, sign):
        """What a row with a point gains if it grows by a sign, entered as told behind it."""
        gained = 0
        for at, (one, mark) in enumerate(zip(self.occurrences, entering), start=self.heard):
            begin = mark if one.is_back else point[at][one.reader.number_of(mark)]
            gained += one.ways[sign][begin][1]
        return gained

    def enterings(self):
        """All enterings, true ones or not."""
        return all_choices([one.reader.marks for one in self.occurrences])


class Weighing:
    """The scales of all names of a sum and a saying, ascending, and what is added besides the gains of names."""

    def __init__(self, total, saying):
        self.total = total
        self.saying = saying
        self.counts = [saying.house.count_of(count) for factor, count, term in total.parts]
        self.scales = {}
        for name in sorted(set(total.names + saying.names)):
            occurrences = self._occurrences(name)
            parts = heard_parts(saying, name)
            self.scales[name] = Scale(name, parts, occurrences, saying.house.signs)
        # of names that only the saying has nothing but their points matters
        self.added = [name for name in self.scales if name in total.names]
        self.shared = [name for name in saying.names if name in total.names]
        self.others = [name for name in saying.names if name not in total.names]
        self._judge = judge_of(saying, {name: heard_sight(saying, name) for name in saying.names})

    def _occurrences(self, name):
        found = []
        for (factor, _, term), count in zip(self.total.parts, self.counts):
            parts = [part for part in term.parts if part[0] == "name" and part[1] == name]
            found.extend([Occurrence(factor, count, part, self.saying.house.signs) for part in parts])
        return found

    def met_others(self, lists):
        """Which points of the names that only the saying has go with points of those that the sum has, too.

        The dict has, for each tuple of heard points of the shared names with which the saying holds, the list of
        the tuples of points of the others. For each name of the saying a list of the points to try is given.
        """
        met = {}
        for shared in all_choices([lists[name] for name in self.shared]):
            points = dict(zip(self.shared, shared))
            for others in all_choices([lists[name] for name in self.others]):
                points.update(dict(zip(self.others, others)))
                if self._judge.holds_at(points):
                    met.setdefault(shared, []).append(others)
        return met

    def heard_of(self, points):
        """The tuple of the heard points of the shared names."""
        return tuple([self.scales[name].heard_point(points[name]) for name in self.shared])

    def entered(self, points):
        """For points of the names of the sum: the true entering of each one, and what is added besides."""
        entering = {name: () for name in self.added}
        besides = self.total.number
        for (factor, _, term), count in zip(self.total.parts, self.counts):
            mark = count.reader.first
            for part in term.parts:
                if part[0] == "row":
                    mark, amount = count.led(mark, part[1])
                    besides += factor * amount
                else:
                    name = part[1]
                    scale = self.scales[name]
                    at = scale.heard + len(entering[name])
                    entering[name] += (mark,)
                    mark = points[name][at][count.reader.number_of(mark)]
            besides += factor * count.ends[count.reader.number_of(mark)]
        return (entering, besides)
