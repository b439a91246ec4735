"""All choices of points of rows that are met, the posts from which ways lead to theirs, and their greatest worths."""

from allrows.choosing import all_choices
from allrows.posts import Climb, Posts
from allrows.weighing import Weighing


class Weighed:
    """A sum and a saying, with all choices that are met (others of names that only the saying has left aside).

    A choice is a pair: for each name a post, and what is added besides.
    """

    def __init__(self, total, saying):
        self.weighing = Weighing(total, saying)
        self.scales = self.weighing.scales
        met = self.weighing.met_others({name: self._heard_points(name) for name in saying.names})
        self.choices = self._met_choices(met)
        self.posts = {name: Posts(scale, self._ends(name, met)) for name, scale in self.scales.items()}

    def _heard_points(self, name):
        return self.scales[name].heard_points(self.scales[name].listed)

    def _met_choices(self, met):
        weighing = self.weighing
        choices = []
        for numbers in all_choices([list(range(len(self.scales[name].listed))) for name in weighing.added]):
            points = {name: self.scales[name].listed[number] for name, number in zip(weighing.added, numbers)}
            heard = weighing.heard_of(points)
            if heard not in met:
                continue
            entering, besides = weighing.entered(points)
            posts = {name: (number, entering[name]) for name, number in zip(weighing.added, numbers)}
            for name, point in zip(weighing.others, met[heard][0]):
                posts[name] = self._post_of_other(name, point)
            choices.append((posts, besides))
        return choices

    def _post_of_other(self, name, point):
        return (self.scales[name].listed.index(point), ())

    def _ends(self, name, met):
        """The posts of a name in all choices that are met, each once."""
        if name in self.weighing.added:
            return list({posts[name]: True for posts, besides in self.choices})
        at = self.weighing.others.index(name)
        points = list({others[at]: True for told in met.values() for others in told})
        return [self._post_of_other(name, point) for point in points]

    def climbs(self, slope):
        """For each name the greatest gains on ways from the empty row."""
        return {name: Climb(posts, posts.begins(), slope) for name, posts in self.posts.items()}

    def loop_among(self, climbs):
        """The pair of a name and the ways of a ring that climbs, or None."""
        for name, climb in climbs.items():
            if climb.loop is not None:
                return (name, climb.loop)
        return None

    def greatest(self, climbs, sense):
        """The greatest worth, told by climbs, and a choice that has it; for a sense of -1 of the contrary of the sum.

        There is no choice where no rows are met ("none"), or worths are endless ("endless").
        """
        if not self.choices:
            return ("none", None)
        if self.loop_among(climbs) is not None:
            return ("endless", None)
        best = None
        found = None
        for choice in self.choices:
            gained = sense * choice[1] + sum([climbs[name].gains[post] for name, post in choice[0].items()])
            if best is None or gained > best:
                best = gained
                found = choice[0]
        return (best, found)

    def rows_of(self, climbs, choice):
        """Rows that climb to the posts of a choice, with their names."""
        return tuple([(name, climb.row_to(choice[name])) for name, climb in climbs.items()])
