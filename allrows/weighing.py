"""A sum and a saying: where its counts enter the rows of names, and what they add there.

Points are placed ones, and the marks of enterings are told by the places of their parts.
"""

from allrows.choosing import all_choices
from allrows.hearing import heard_parts
from allrows.judging import judge_of
from allrows.placing import Placing, row_of_part, walked_points


class Occurrence:
    """A part of a term of a sum with a name, and how much what its count adds there counts."""

    def __init__(self, factor, count, part):
        self.factor = factor
        self.count = count
        self.is_back = part[2]
        self.part = (count.reader, part[3], part[2])

    def gains_of(self, sign):
        """For each mark what a sign of the name's row adds if this part of it is read from there."""
        amounts = self.count.ways_led(row_of_part(self.part, sign))[1]
        return [self.factor * amount for amount in amounts]


class Scale:
    """A name: how a sum and a saying see it, and what the sum adds as its row grows."""

    def __init__(self, name, parts, occurrences, signs):
        self.name = name
        self.occurrences = occurrences
        self.signs = signs
        self.placing = Placing(signs, [*parts, *[one.part for one in occurrences]])
        self.listed, self.least_rows, table = walked_points(self.placing)
        self.sources = _sources(table, signs)
        self.spans = self.placing.spans[len(parts):]
        self.is_turned = any([one.is_back for one in occurrences])
        # the saying hears the places ahead of this one
        self.heard = self.spans[0][0] if occurrences else len(self.placing.marks)
        self.gains = {sign: self._gains_of(sign) for sign in signs}
        # for each place of an entering the one of the entering that comes of it
        self.came_places = {sign: steps[0] for sign, steps in zip(signs, self.placing.steps)}

    def _gains_of(self, sign):
        """For each place what a sign adds there."""
        gains = [0] * self.heard
        for one in self.occurrences:
            gains.extend(one.gains_of(sign))
        return gains

    def came_of(self, entering, sign):
        """The entering that comes of this one if the sign at the end is left out."""
        if not self.is_turned:
            return entering
        came = self.came_places[sign]
        return tuple([came[place] for place in entering])

    def enterings_behind(self, entering, sign):
        """All enterings of which this one comes if the sign is left out."""
        came = self.came_places[sign]
        lists = []
        for (begin, end), place in zip(self.spans, entering):
            lists.append([own for own in range(begin, end) if came[own] == place])
        return all_choices(lists)

    def gained_by(self, point, entering, sign):
        """What a row with a point gains if it grows by a sign, entered as told behind it."""
        gains = self.gains[sign]
        gained = 0
        for one, place in zip(self.occurrences, entering):
            gained += gains[place if one.is_back else point[place]]
        return gained

    def enterings(self):
        """All enterings, true ones or not."""
        return all_choices([list(range(begin, end)) for begin, end in self.spans])


def _sources(table, signs):
    """For each point the pairs of a point and a sign that lead to it."""
    sources = [[] for _ in table]
    for number, targets in enumerate(table):
        for sign, target in zip(signs, targets):
            sources[target].append((number, sign))
    return sources


class Weighing:
    """The scales of all names of a sum and a saying, ascending, and what is added besides the gains of names."""

    def __init__(self, total, saying):
        self.saying = saying
        names = total.names
        self._number = total.number
        self._counted = [(factor, saying.house.count_of(count), term) for factor, count, term in total.parts]
        self.scales = {}
        for name in sorted(set(names + saying.names)):
            self.scales[name] = Scale(name, heard_parts(saying, name), self._occurrences(name), saying.house.signs)
        # of names that only the saying has nothing but their points matters
        self.added = [name for name in self.scales if name in names]
        self.shared = [name for name in saying.names if name in names]
        self.others = [name for name in saying.names if name not in names]
        # a scale has the places of all parts with which the saying hears the name, and these ahead of all others
        self._judge = judge_of(saying, self.scales)
        self._routes = self._all_routes()
        # for what the saying hears the points of other names that are met with it
        self.met = {}

    def _occurrences(self, name):
        found = []
        for factor, count, term in self._counted:
            parts = [part for part in term.parts if part[0] == "name" and part[1] == name]
            found.extend([Occurrence(factor, count, part) for part in parts])
        return found

    def _all_routes(self):
        """For each part of the sum the number of its first mark, its ways, and what is added at its end, by marks.

        A way is a name and the first place of an occurrence; or None, and what a plain row leads to and adds, by marks.
        """
        met = {name: 0 for name in self.added}
        routes = []
        for factor, count, term in self._counted:
            ways = []
            for part in term.parts:
                if part[0] == "row":
                    numbers, amounts = count.ways_led(part[1])
                    ways.append((None, numbers, [factor * amount for amount in amounts]))
                else:
                    ways.append((part[1], self.scales[part[1]].spans[met[part[1]]][0], None))
                    met[part[1]] += 1
            first = count.reader.number_of(count.reader.first)
            routes.append((first, ways, [factor * amount for amount in count.ends]))
        return routes

    def is_met(self, points):
        """Whether the saying holds at points of all its names."""
        return self._judge.holds_at(points)

    def met_others(self, points, choices):
        """Of these choices of points of names that only the saying has those that are met with points of the others.

        The choices are the same ones in all calls.
        """
        if not self.others:
            return choices if self.is_met(points) else []
        heard = self.heard_of(points)
        if heard not in self.met:
            self.met[heard] = self._searched_others(points, choices)
        return self.met[heard]

    def _searched_others(self, points, choices):
        told = dict(points)
        found = []
        for others in choices:
            for name, point in zip(self.others, others):
                told[name] = point
            if self.is_met(told):
                found.append(others)
        return found

    def heard_of(self, points):
        """What the saying hears of points of the names of the sum."""
        return tuple([points[name][:self.scales[name].heard] for name in self.shared])

    def entered(self, points):
        """For points of the names of the sum: the list of places of each one's true entering; what is added besides."""
        entering = {name: [] for name in self.added}
        besides = self._number
        for number, ways, ends in self._routes:
            for name, target, amounts in ways:
                if name is None:
                    besides += amounts[number]
                    number = target[number]
                else:
                    entering[name].append(target + number)
                    number = points[name][target + number] - target
            besides += ends[number]
        return (entering, besides)
