"""Points of sights, told by numbers.

The marks of all parts of a sight are numbered through, as its places. A placed point is a tuple that tells for each
place the one to which a row leads it.
"""


from allrows.walks import walked_table


class Placing:
    """The places of the parts of a sight, and where signs lead them."""

    def __init__(self, signs, parts):
        self.signs = signs
        self.parts = parts
        self.marks = []
        # for each part the pair of its first place and the first one behind it
        self.spans = []
        for part in parts:
            begin = len(self.marks)
            self.marks.extend(part[0].marks)
            self.spans.append((begin, len(self.marks)))
        self.at_first = tuple(range(len(self.marks)))
        self.steps = [self._step_of(sign) for sign in signs]

    def _step_of(self, sign):
        """For each place the one from which the row ahead of a sign leads on, and the one to which the sign does.

        For a part that goes backwards the sign is read ahead of the row.
        """
        entered = list(self.at_first)
        followed = list(self.at_first)
        for (begin, end), part in zip(self.spans, self.parts):
            places = entered if part[2] else followed
            places[begin:end] = _led_places(begin, part, sign)
        return (entered, followed)

    def step(self, placed, at):
        """The placed point of the row with one sign more at its end, told by the number of the sign."""
        entered, followed = self.steps[at]
        return tuple([followed[placed[place]] for place in entered])

    def placed_row(self, row):
        """The placed point of a row."""
        return tuple([place for span, part in zip(self.spans, self.parts) for place in _led_places(span[0], part, row)])

    def placed(self, point):
        """The placed point that a point is, told by marks."""
        places = []
        for (begin, _), part, one in zip(self.spans, self.parts, point):
            places.extend([begin + part[0].number_of(mark) for mark in one])
        return tuple(places)

    def marked(self, placed):
        """The point, told by marks, that a placed point is."""
        marks = [self.marks[place] for place in placed]
        return tuple([tuple(marks[begin:end]) for begin, end in self.spans])

    def begin_of(self, part):
        """The first place of a part."""
        return self.spans[self.parts.index(part)][0]


def walked_points(placing):
    """The lists of all placed points that rows have, of their least rows, and of the numbers of those signs lead to."""

    steps = placing.steps

    def lead(placed, at):
        entered, followed = steps[at]
        return tuple([followed[placed[place]] for place in entered])

    return walked_table(placing.signs, placing.at_first, lead)


def _led_places(begin, part, row):
    return [begin + number for number in part[0].numbers_led(row_of_part(part, row))]


def row_of_part(part, row):
    """The row as a part tells it: through its change, and turned about if it goes backwards."""
    changed = row if part[1] is None else part[1].of(row)
    return changed[::-1] if part[2] else changed
