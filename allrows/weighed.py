"""All choices of points of rows that are met, the posts from which ways lead to theirs, and their greatest worths."""

from allrows.choosing import all_choices
from allrows.posts import Climb, Posts
from allrows.weighing import Weighing


class Weighed:
    """A sum and a saying, with all choices that are met (others of names that only the saying has left aside).

    A choice is a pair: for each name the number of a post, and what is added besides.
    """

    def __init__(self, total, saying):
        self.weighing = Weighing(total, saying)
        self.scales = self.weighing.scales
        # for each name the numbers of the posts in choices that are met
        self._end_numbers = {name: {} for name in self.scales}
        self.choices = self._met_choices()
        self._add_ends_of_others()
        self.posts = {name: Posts(scale, list(self._end_numbers[name])) for name, scale in self.scales.items()}

    def _number_of_end(self, name, post):
        ends = self._end_numbers[name]
        if post not in ends:
            ends[post] = len(ends)
        return ends[post]

    def _number_of_other(self, name, point):
        return self._number_of_end(name, (self.scales[name].listed.index(point), ()))

    def _add_ends_of_others(self):
        for told in self.weighing.met.values():
            for others in told:
                for name, point in zip(self.weighing.others, others):
                    self._number_of_other(name, point)

    def _met_choices(self):
        weighing = self.weighing
        all_others = all_choices([self.scales[name].listed for name in weighing.others])
        choices = []
        for numbered in all_choices([list(enumerate(self.scales[name].listed)) for name in weighing.added]):
            points = {name: point for name, (number, point) in zip(weighing.added, numbered)}
            met = weighing.met_others(points, all_others)
            if not met:
                continue
            entering, besides = weighing.entered(points)
            posts = {}
            for name, (number, _) in zip(weighing.added, numbered):
                posts[name] = self._number_of_end(name, (number, tuple(entering[name])))
            for name, point in zip(weighing.others, met[0]):
                posts[name] = self._number_of_other(name, point)
            choices.append((posts, besides))
        return choices

    def least_row(self, name, number):
        """The least row with the point of a post."""
        return self.scales[name].least_rows[self.posts[name].listed[number][0]]

    def climbs(self, slope):
        """For each name the greatest gains on ways from the empty row."""
        return {name: Climb(posts.outgoing, posts.begins(), slope) for name, posts in self.posts.items()}

    def loop_among(self, climbs):
        """The pair of a name and the ways of a ring that climbs, or None."""
        for name, climb in climbs.items():
            if climb.loop is not None:
                return (name, climb.loop)
        return None

    def greatest(self, climbs, sense):
        """The greatest worth, told by climbs, and a choice that has it; for a sense of -1 of the contrary of the sum.

        There is no choice where no rows are met ("none"), or worths are endless ("endless").
        """
        if not self.choices:
            return ("none", None)
        if self.loop_among(climbs) is not None:
            return ("endless", None)
        best = None
        found = None
        for choice in self.choices:
            gained = sense * choice[1] + sum([climbs[name].gains[number] for name, number in choice[0].items()])
            if best is None or gained > best:
                best = gained
                found = choice[0]
        return (best, found)

    def rows_of(self, climbs, choice):
        """Rows that climb to the posts of a choice, with their names."""
        return tuple([(name, climb.row_to(choice[name])) for name, climb in climbs.items()])
