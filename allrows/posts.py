"""Posts (points with enterings) from which ways lead to told ones, and what can be gained on ways and in rings."""

LEVEL = (0, 1)
_FIRST_LOOK = 2


class Posts:
    """The wanted posts of a name: those from which ways lead to ends. A post is the number of a point, and an entering.

    Posts are numbered, the ends ahead of all others. outgoing has for each of them the ways from it to other wanted
    ones: triples of the number of a post, a sign and a step.
    """

    def __init__(self, scale, ends):
        self.listed = list(ends)
        self.numbers = {post: number for number, post in enumerate(ends)}
        self.outgoing = [[] for _ in ends]
        # for each post the way by which it leads on to an end
        self.onward = [None for _ in ends]
        target = 0
        while target < len(self.listed):
            end, entering = self.listed[target]
            for point, sign in scale.sources[end]:
                way = (target, sign, scale.gained_by(scale.listed[point], entering, sign))
                number = self._number_of((point, scale.came_of(entering, sign)), way)
                self.outgoing[number].append(way)
            target += 1

    def _number_of(self, source, way):
        """The number of a post from which a way leads, a new one if need be."""
        number = self.numbers.setdefault(source, len(self.listed))
        if number == len(self.listed):
            self.listed.append(source)
            self.outgoing.append([])
            self.onward.append(way)
        return number

    def begins(self):
        """The wanted posts of the empty row."""
        return [number for number, post in enumerate(self.listed) if post[0] == 0]

    def way_on(self, number):
        """The row of a way from a post to an end, and this end."""
        row = ""
        while self.onward[number] is not None:
            number, sign, _ = self.onward[number]
            row += sign
        return (row, number)


class Climb:
    """The greatest gains to which ways from the begins lead, by the numbers of posts.

    The steps are multiplied by the second number of the slope, and lessened by the first one. If a ring of posts
    is found whose steps add up to more than 0, there are no greatest gains: loop is the tuple of ways in the ring,
    triples of the number of the post from which the way leads, a sign and a step.
    """

    def __init__(self, outgoing, begins, slope):
        self.gains = {number: 0 for number in begins}
        self.last_ways = {}
        self.loop = None
        higher = begins
        rounds = 0
        look = _FIRST_LOOK
        while higher and self.loop is None:
            higher = _climb_on(outgoing, slope, self.gains, self.last_ways, higher)
            rounds += 1
            # once there are more rounds than posts, the last ways have a ring
            if rounds == look:
                look = 2 * look
                self.loop = _ring_among(self.last_ways)

    def row_to(self, number):
        """The row of a way to a post with the greatest gain."""
        signs = []
        while number in self.last_ways:
            number, sign, _ = self.last_ways[number]
            signs.append(sign)
        return "".join(signs[::-1])


def _climb_on(outgoing, slope, gains, last_ways, begins):
    """Go all ways from these posts: the posts that got higher."""
    higher = {}
    for number in begins:
        for target, sign, step in outgoing[number]:
            gained = gains[number] + step * slope[1] - slope[0]
            if target not in gains or gained > gains[target]:
                gains[target] = gained
                last_ways[target] = (number, sign, step)
                higher[target] = True
    return list(higher)


def _ring_among(last_ways):
    """The ways of some ring of last ways, in order, or None."""
    walks = {}
    for walk, begin in enumerate(last_ways):
        number = begin
        while number in last_ways and number not in walks:
            walks[number] = walk
            number = last_ways[number][0]
        if number in last_ways and walks[number] == walk:
            return _ring_from(last_ways, number)
    return None


def _ring_from(last_ways, begin):
    ways = [last_ways[begin]]
    while ways[-1][0] != begin:
        ways.append(last_ways[ways[-1][0]])
    return tuple(ways[::-1])
