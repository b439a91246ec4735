"""Posts (points with enterings) from which ways lead to told ones, and what can be gained on ways and in rings."""

LEVEL = (0, 1)


class Posts:
    """The wanted posts of a name: those from which ways lead to ends. A post is the number of a point, and an entering.

    incoming has for each of them the ways to it: triples of a post, a sign and a step.
    """

    def __init__(self, scale, ends):
        self.incoming = {}
        # for each post the sign and the post by which a way leads on to an end
        self.onward = {end: None for end in ends}
        sources = _sources(scale.table, scale.sight.signs)
        waiting = list(ends)
        while waiting:
            post = waiting.pop()
            self.incoming[post] = _ways_to(scale, sources, post)
            for source, sign, _ in self.incoming[post]:
                if source not in self.onward:
                    self.onward[source] = (sign, post)
                    waiting.append(source)

    def begins(self):
        """The wanted posts of the empty row."""
        return [post for post in self.incoming if post[0] == 0]

    def way_on(self, post):
        """The row of a way from a post to an end, and this end."""
        row = ""
        while self.onward[post] is not None:
            sign, post = self.onward[post]
            row += sign
        return (row, post)


def _sources(table, signs):
    """For each point the pairs of a point and a sign that lead to it."""
    sources = [[] for _ in table]
    for number, targets in enumerate(table):
        for sign, target in zip(signs, targets):
            sources[target].append((number, sign))
    return sources


def _ways_to(scale, sources, post):
    ways = []
    for number, sign in sources[post[0]]:
        source = (number, scale.came_of(post[1], sign))
        ways.append((source, sign, scale.gained_by(scale.listed[number], post[1], sign)))
    return ways


class Climb:
    """The greatest gains to which ways from the begins lead.

    The steps are multiplied by the second number of the slope, and lessened by the first one. If a ring of posts
    is found whose steps add up to more than 0, there are no greatest gains: loop is the tuple of ways in the ring.
    """

    def __init__(self, posts, begins, slope):
        self.gains = {post: 0 for post in begins}
        self.last_ways = {}
        self.loop = None
        while self.loop is None and _climb_once(posts.incoming, slope, self.gains, self.last_ways):
            self.loop = _ring_among(self.last_ways)

    def row_to(self, post):
        """The row of a way to a post with the greatest gain."""
        signs = []
        while post in self.last_ways:
            post, sign, _ = self.last_ways[post]
            signs.append(sign)
        return "".join(signs[::-1])


def _climb_once(incoming, slope, gains, last_ways):
    """Go all ways once: whether some post got higher."""
    is_higher = False
    for post, ways in incoming.items():
        for way in ways:
            if way[0] not in gains:
                continue
            gained = gains[way[0]] + way[2] * slope[1] - slope[0]
            if post not in gains or gained > gains[post]:
                gains[post] = gained
                last_ways[post] = way
                is_higher = True
    return is_higher


def _ring_among(last_ways):
    """The ways of some ring of last ways, in order, or None."""
    walks = {}
    for walk, begin in enumerate(last_ways):
        post = begin
        while post in last_ways and post not in walks:
            walks[post] = walk
            post = last_ways[post][0]
        if post in last_ways and walks[post] == walk:
            return _ring_from(last_ways, post)
    return None


def _ring_from(last_ways, begin):
    ways = [last_ways[begin]]
    while ways[-1][0] != begin:
        ways.append(last_ways[ways[-1][0]])
    return tuple(ways[::-1])
