"""Roads: which of several sayings can hold together, and which cannot."""

from allrows.choosing import all_choices
from allrows.claims import shown_by_itself
from allrows.hearing import choices_of_rows, heard_sights
from allrows.hitting import least_hits
from allrows.judging import judge_of
from allrows.letters import all_ways, true_ways
from allrows.sayings import Saying
from allrows.values import is_integer


def patterns(atoms):
    """All patterns that come, each with the least rows that make the atoms so."""
    sights = heard_sights(_all_of(atoms))
    judges = [judge_of(atom, sights) for atom in atoms]
    found = {}
    for choice in choices_of_rows(sights):
        points = {name: point for name, (point, row) in zip(sights, choice)}
        pattern = tuple([judge.holds_at(points) for judge in judges])
        if pattern not in found:
            found[pattern] = tuple([(name, row) for name, (point, row) in zip(sights, choice)])
    return tuple([(pattern, found[pattern]) for pattern in sorted(list(found))])


def _all_of(sayings):
    """The sayings put together by "and"."""
    told = sayings[0]
    for saying in sayings[1:]:
        told = Saying(told.house, ("and", told, saying))
    return told


class Crossing:
    """The ways in which atoms can be called true and false (see letters), and those that are patterns that come."""

    def __init__(self, atoms):
        self.atoms = atoms
        self.numbers = {str(atom): number for number, atom in enumerate(atoms)}
        self.all_patterns = all_ways(len(atoms))
        self.ways = [true_ways(atom, self.numbers) for atom in atoms]
        self.coming = 0
        for pattern, _ in patterns(atoms):
            self.coming = self.coming | self.by_road(tuple(list(enumerate(pattern))))
        self.nos_found = [road for road in _all_roads(len(atoms)) if self.is_no(road)]

    def by_road(self, road):
        """The patterns that go by a road."""
        ways = self.all_patterns
        for number, is_true in road:
            own = self.ways[number]
            ways = ways & (own if is_true else self.all_patterns ^ own)
        return ways

    def is_barred(self, road):
        """Whether no pattern that comes goes by a road."""
        return self.by_road(road) & self.coming == 0

    def is_no(self, road):
        if not self.is_barred(road):
            return False
        return not any([self.is_barred(road[:at] + road[at + 1:]) for at in range(len(road))])

    def wrong_patterns(self, saying):
        """The patterns in which a made saying is false."""
        return self.all_patterns ^ true_ways(saying, self.numbers)

    def does_follow(self, saying):
        return self.wrong_patterns(saying) & self.coming == 0


def _all_roads(many):
    """All roads with their numbers ascending, the shorter ones first, then ascending."""
    roads = []
    for called in all_choices([[None, False, True] for _ in range(many)]):
        roads.append(tuple([(number, is_true) for number, is_true in enumerate(called) if is_true is not None]))
    return sorted(roads, key=_road_order)


def _road_order(road):
    return (len(road), road)


def nos(atoms):
    """All nos: roads by which no pattern that comes goes, while by each one with a pair less one does."""
    return tuple(Crossing(atoms).nos_found)


def jump(atoms, road):
    """The least number of pairs from the beginning of a road by which already no pattern that comes goes, or None."""
    crossing = Crossing(atoms)
    for many in range(len(road) + 1):
        if crossing.is_barred(road[:many]):
            return many
    return None


def follows(atoms, saying):
    """Whether a made saying is true in all patterns that come."""
    return Crossing(atoms).does_follow(saying)


def cores(atoms, saying):
    """All least lots of nos so that each pattern in which the saying is false goes by one of them, or None."""
    crossing = Crossing(atoms)
    return _cores(crossing, saying) if crossing.does_follow(saying) else None


def _cores(crossing, saying):
    wrong = crossing.wrong_patterns(saying)
    by_nos = [crossing.by_road(no) for no in crossing.nos_found]
    lots = []
    for way in range(1 << len(crossing.atoms)):
        if (wrong >> way) & 1 == 1:
            lots.append(tuple([number for number, ways in enumerate(by_nos) if (ways >> way) & 1 == 1]))
    return tuple(least_hits(lots))


def by_cases(atoms, saying):
    """Some deduction of a made saying by trees for nos and one line "cases", None if it does not follow."""
    crossing = Crossing(atoms)
    if not crossing.does_follow(saying):
        return None
    claims = [_claim_of_no(atoms, crossing.nos_found[number]) for number in _cores(crossing, saying)[0]]
    lines = [(claim, shown_by_itself(claim)) for claim in claims]
    return tuple([*lines, (saying, ("cases", tuple(range(len(lines)))))])


def _claim_of_no(atoms, no):
    """The saying that not all pairs of a no hold together."""
    house = atoms[0].house
    pairs = [atoms[number] if is_true else Saying(house, ("not", atoms[number])) for number, is_true in no]
    return Saying(house, ("not", _all_of(pairs)))


def split(atoms, saying):
    """Some split for a made saying with the fewest splits within one another, None if it does not follow."""
    crossing = Crossing(atoms)
    return _least_split(crossing, saying, ())[1] if crossing.does_follow(saying) else None


def least_depth(atoms, saying):
    """How many splits stand in one another in such a split, None if the saying does not follow."""
    crossing = Crossing(atoms)
    return _least_split(crossing, saying, ())[0] if crossing.does_follow(saying) else None


def _least_split(crossing, saying, road):
    """The number of splits within one another, and the split, for a road."""
    if _is_sure(crossing, saying, road):
        return (0, ())
    for number, no in enumerate(crossing.nos_found):
        if _has_all(road, no):
            return (0, ("no", number))
    best = None
    for atom in range(len(crossing.atoms)):
        if not _is_on(road, atom):
            deep, without = _least_split(crossing, saying, (*road, (atom, False)))
            other_deep, having = _least_split(crossing, saying, (*road, (atom, True)))
            if best is None or max(deep, other_deep) + 1 < best[0]:
                best = (max(deep, other_deep) + 1, (atom, without, having))
    return best


def _is_sure(crossing, saying, road):
    """Whether a saying is true in all patterns that go by a road, whether they come or not."""
    return crossing.by_road(road) & crossing.wrong_patterns(saying) == 0


def _has_all(road, no):
    return all([pair in road for pair in no])


def _is_on(road, atom):
    return atom in [number for number, is_true in road]


def split_holds(atoms, saying, value):
    """Whether any value is a split for a made saying."""
    return _is_split(Crossing(atoms), saying, (), value)


def _is_split(crossing, saying, road, value):
    if not isinstance(value, tuple):
        return False
    if len(value) == 0:
        return _is_sure(crossing, saying, road)
    if len(value) == 2:
        if value[0] != "no" or not _is_number(value[1], len(crossing.nos_found)):
            return False
        return _has_all(road, crossing.nos_found[value[1]])
    if len(value) != 3 or not _is_number(value[0], len(crossing.atoms)) or _is_on(road, value[0]):
        return False
    atom, without, having = value
    if not _is_split(crossing, saying, (*road, (atom, False)), without):
        return False
    return _is_split(crossing, saying, (*road, (atom, True)), having)


def _is_number(value, many):
    return is_integer(value) and 0 <= value < many
