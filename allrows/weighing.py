"""A sum and a saying: where its counts enter the rows of names, and what they add there.

Points are placed ones, and the marks of enterings are told by the places of their parts.
"""

from allrows.choosing import all_choices
from allrows.hearing import heard_parts
from allrows.judging import judge_of
from allrows.sights import Sight, placed_points


class Occurrence:
    """A part of a term of a sum with a name, and how much what its count adds there counts."""

    def __init__(self, factor, count, part):
        self.factor = factor
        self.count = count
        self.is_back = part[2]
        self.part = (count.reader, part[3], part[2])

    def gains_of(self, sign):
        """For each mark what a sign of the name's row adds if this part of it is read from there."""
        change = self.part[1]
        word = sign if change is None else change.of(sign)
        amounts = self.count.ways_led(word[::-1] if self.is_back else word)[1]
        return [self.factor * amount for amount in amounts]


class Scale:
    """A name: how a sum and a saying see it, and what the sum adds as its row grows."""

    def __init__(self, name, parts, occurrences, signs):
        self.name = name
        self.occurrences = occurrences
        self.sight = Sight(signs, [*parts, *[one.part for one in occurrences]])
        self.placing = self.sight.placing
        self.listed, self.least_rows, self.table = placed_points(self.sight)
        self.spans = self.placing.spans[len(parts):]
        # the saying hears the places ahead of this one
        self.heard = self.spans[0][0] if occurrences else len(self.placing.marks)
        self.gains = {sign: self._gains_of(sign) for sign in signs}
        # for each place of an entering the one of the entering that comes of it
        self.came_places = {sign: steps[0] for sign, steps in zip(signs, self.placing.steps)}

    def _gains_of(self, sign):
        """For each place what a sign adds there."""
        gains = [0 for _ in range(self.heard)]
        for one in self.occurrences:
            gains.extend(one.gains_of(sign))
        return gains

    def heard_point(self, point):
        """What the saying hears of a point."""
        return point[:self.heard]

    def heard_points(self, listed):
        """What the saying hears of all these points, each once."""
        return list({self.heard_point(point): True for point in listed})

    def came_of(self, entering, sign):
        """The entering that comes of this one if the sign at the end is left out."""
        came = self.came_places[sign]
        return tuple([came[place] for place in entering])

    def enterings_behind(self, entering, sign):
        """All enterings of which this one comes if the sign is left out."""
        came = self.came_places[sign]
        lists = []
        for (begin, end), place in zip(self.spans, entering):
            lists.append([own for own in range(begin, end) if came[own] == place])
        return all_choices(lists)

    def gained_by(self, point, entering, sign):
        """What a row with a point gains if it grows by a sign, entered as told behind it."""
        gains = self.gains[sign]
        gained = 0
        for one, place in zip(self.occurrences, entering):
            gained += gains[place if one.is_back else point[place]]
        return gained

    def enterings(self):
        """All enterings, true ones or not."""
        return all_choices([list(range(begin, end)) for begin, end in self.spans])


class Weighing:
    """The scales of all names of a sum and a saying, ascending, and what is added besides the gains of names."""

    def __init__(self, total, saying):
        self.saying = saying
        names = total.names
        self._number = total.number
        self._counted = [(factor, saying.house.count_of(count), term) for factor, count, term in total.parts]
        self.scales = {}
        for name in sorted(set(names + saying.names)):
            self.scales[name] = Scale(name, heard_parts(saying, name), self._occurrences(name), saying.house.signs)
        # of names that only the saying has nothing but their points matters
        self.added = [name for name in self.scales if name in names]
        self.shared = [name for name in saying.names if name in names]
        self.others = [name for name in saying.names if name not in names]
        # a scale's sight has all parts with which the saying hears the name, and these ahead of all others
        self._judge = judge_of(saying, {name: self.scales[name].sight for name in saying.names})
        self._routes = self._all_routes()

    def _occurrences(self, name):
        found = []
        for factor, count, term in self._counted:
            parts = [part for part in term.parts if part[0] == "name" and part[1] == name]
            found.extend([Occurrence(factor, count, part) for part in parts])
        return found

    def _all_routes(self):
        """For each part of the sum the number of its first mark, its ways, and what is added at its end, by marks.

        A way is a name and the first place of an occurrence; or None, and what a plain row leads to and adds, by marks.
        """
        met = {name: 0 for name in self.added}
        routes = []
        for factor, count, term in self._counted:
            ways = []
            for part in term.parts:
                if part[0] == "row":
                    numbers, amounts = count.ways_led(part[1])
                    ways.append((None, numbers, [factor * amount for amount in amounts]))
                else:
                    ways.append((part[1], self.scales[part[1]].spans[met[part[1]]][0], None))
                    met[part[1]] += 1
            first = count.reader.number_of(count.reader.first)
            routes.append((first, ways, [factor * amount for amount in count.ends]))
        return routes

    def met_others(self, lists):
        """Which points of the names that only the saying has go with points of those that the sum has, too.

        The dict has, for each tuple of heard points of the shared names with which the saying holds, the list of
        the tuples of points of the others. For each name of the saying a list of the points to try is given.
        """
        met = {}
        for shared in all_choices([lists[name] for name in self.shared]):
            points = dict(zip(self.shared, shared))
            for others in all_choices([lists[name] for name in self.others]):
                points.update(dict(zip(self.others, others)))
                if self._judge.holds_at(points):
                    met.setdefault(shared, []).append(others)
        return met

    def heard_of(self, points):
        """The tuple of the heard points of the shared names."""
        return tuple([self.scales[name].heard_point(points[name]) for name in self.shared])

    def entered(self, points):
        """For points of the names of the sum: the true entering of each one, and what is added besides."""
        entering = {name: () for name in self.added}
        besides = self._number
        for number, ways, ends in self._routes:
            for name, target, amounts in ways:
                if name is None:
                    besides += amounts[number]
                    number = target[number]
                else:
                    entering[name] += (target + number,)
                    number = points[name][target + number] - target
            besides += ends[number]
        return (entering, besides)
