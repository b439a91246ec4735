"""Changes: each sign is exchanged for a row."""

from allrows.errors import InvalidChange, InvalidText
from allrows.values import is_row, is_rows, is_signs, is_tuple_of, row_order


class Change:
    """A row for each sign: its image."""

    def __init__(self, signs, rows):
        if not is_signs(signs):
            raise InvalidChange("signs")
        if not is_rows(rows, signs) or len(rows) != len(signs):
            raise InvalidChange("rows")
        self.signs = signs
        self.rows = tuple(rows)

    @classmethod
    def parse(cls, signs, text):
        rows = images_of_text(signs, text)
        if rows is None:
            raise InvalidText(0)
        return cls(signs, rows)

    @property
    def is_plain(self):
        return list(self.rows) == list(self.signs)

    @property
    def is_void(self):
        return all([row == "" for row in self.rows])

    def of(self, row):
        """The row in which each sign stands as its image."""
        return "".join([self.rows[self.signs.index(sign)] for sign in row])

    def turned(self):
        return Change(self.signs, [row[::-1] for row in self.rows])

    def __mul__(self, other):
        """The change that does the other one first, then this one."""
        if not isinstance(other, Change):
            return NotImplemented
        return Change(self.signs, [self.of(row) for row in other.rows])

    def __eq__(self, other):
        return isinstance(other, Change) and self.signs == other.signs and self.rows == other.rows

    def __str__(self):
        return f"[{','.join(self.rows)}]"


def images_of_text(signs, text):
    """The images that a text such as [ab,b] tells, or None if it is no text of a change of these signs."""
    if not isinstance(text, str) or not text.startswith("[") or not text.endswith("]"):
        return None
    rows = text[1:-1].split(",")
    if len(rows) != len(signs) or not is_rows(rows, signs):
        return None
    return rows


def is_clear(change):
    """Whether unlike rows have unlike images."""
    return clash(change) is None


def rests(change):
    """The lot of all that one of two rows can be ahead of the other one, None if an image is empty."""
    if "" in change.rows:
        return None
    return tuple(sorted(list(_ways_to_rests(change))))


def clash(change):
    """Some pair of unlike rows with one image, or None."""
    for sign, image in zip(change.signs, change.rows):
        if image == "":
            return ("", sign)
    return _ways_to_rests(change).get("")


def clash_holds(change, value):
    """Whether any value is a pair of unlike rows with one image."""
    if not is_tuple_of(value, 2) or not is_rows(value, change.signs):
        return False
    return value[0] != value[1] and change.of(value[0]) == change.of(value[1])


def _ways_to_rests(change):
    """For each rest two rows: the image of the first one is that of the second one and the rest behind it."""
    ways = {}
    found = _first_rests(change)
    at = 0
    while at < len(found):
        rest, longer, shorter = found[at]
        if rest not in ways:
            ways[rest] = (longer, shorter)
            found.extend(_next_rests(change, rest, longer, shorter))
        at += 1
    return ways


def _first_rests(change):
    found = []
    for sign, image in zip(change.signs, change.rows):
        for other, start in zip(change.signs, change.rows):
            if sign != other and image.startswith(start):
                found.append((image[len(start):], sign, other))
    return found


def _next_rests(change, rest, longer, shorter):
    """What comes of a rest if a sign is put behind the row whose image is shorter."""
    found = []
    for sign, image in zip(change.signs, change.rows):
        if rest != "" and image.startswith(rest):
            found.append((image[len(rest):], shorter + sign, longer))
        if rest.startswith(image):
            found.append((rest[len(image):], longer, shorter + sign))
    return found


def origin(change, row):
    """The least row whose image is this row, or None."""
    # an empty image only makes an origin longer, so the least one has no sign with such an image
    images = [(sign, image) for sign, image in zip(change.signs, change.rows) if image != ""]
    least = {len(row): ""}
    for at in reversed(range(len(row))):
        found = [
            sign + least[at + len(image)]
            for sign, image in images
            if row.startswith(image, at) and at + len(image) in least
        ]
        if found:
            least[at] = min(found, key=row_order)
    return least.get(0)


def origins(change, row, most):
    """How many rows of at most this length have this row as their image."""
    ways = {0: 1}
    total = 0
    for _ in range(most + 1):
        total += ways.get(len(row), 0)
        ways = _ways_behind_a_sign(change, row, ways)
        if not ways:
            break
    return total


def _ways_behind_a_sign(change, row, ways):
    """In how many ways rows with one sign more have the row up to each place as their image."""
    following = {}
    for at, many in ways.items():
        for image in change.rows:
            if row.startswith(image, at):
                end = at + len(image)
                following[end] = following.get(end, 0) + many
    return following
