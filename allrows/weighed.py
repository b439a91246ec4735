"""All choices of points of rows that are met, and the posts from which ways lead to theirs."""

from allrows.choosing import all_choices
from allrows.posts import Posts
from allrows.weighing import Weighing


class Weighed:
    """A sum and a saying, with all choices that are met (others of names that only the saying has left aside).

    A choice is a pair: for each name a post, and what is added besides.
    """

    def __init__(self, total, saying):
        self.weighing = Weighing(total, saying)
        self.scales = self.weighing.scales
        met = self.weighing.met_others({name: self._heard_points(name) for name in saying.names})
        self.choices = self._met_choices(met)
        self.posts = {name: Posts(scale, self._ends(name, met)) for name, scale in self.scales.items()}

    def _heard_points(self, name):
        return self.scales[name].heard_points(self.scales[name].listed)

    def _met_choices(self, met):
        weighing = self.weighing
        choices = []
        for numbers in all_choices([list(range(len(self.scales[name].listed))) for name in weighing.added]):
            points = {name: self.scales[name].listed[number] for name, number in zip(weighing.added, numbers)}
            heard = weighing.heard_of(points)
            if heard not in met:
                continue
            entering, besides = weighing.entered(points)
            posts = {name: (number, entering[name]) for name, number in zip(weighing.added, numbers)}
            for name, point in zip(weighing.others, met[heard][0]):
                posts[name] = self._post_of_other(name, point)
            choices.append((posts, besides))
        return choices

    def _post_of_other(self, name, point):
        return (self.scales[name].number_of_point[point], ())

    def _ends(self, name, met):
        """The posts of a name in all choices that are met, each once."""
        if name in self.weighing.added:
            return list({posts[name]: True for posts, besides in self.choices})
        at = self.weighing.others.index(name)
        points = list({others[at]: True for told in met.values() for others in told})
        return [self._post_of_other(name, point) for point in points]
