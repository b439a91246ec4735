"""[71], [72], [73]: patterns of atoms, nos, roads, cores, cases and splits."""

import random
import unittest
from itertools import combinations, product

from allrows.deciding import fails, holds
from allrows.looker import deduction_holds
from allrows.roads import by_cases, cores, follows, jump, least_depth, nos, patterns, split, split_holds
from allrows.sayings import Saying
from support import HOME, Checks, any_values, is_small, random_atom, random_house, random_saying, rows_of_names, tried


def said(text):
    return Saying.parse(HOME, text)


ROWS = [said(f"odds({term}) is even") for term in ("one", "two", "one + two")]
# the first one always holds, the second one never
SURE = [said("odds(one + one) is even"), said("odds('a') is even"), said("ends(one) is yes")]


def all_of(sayings):
    told = sayings[0]
    for saying in sayings[1:]:
        told = Saying(told.house, ("and", told, saying))
    return told


def many_atoms(seed, many, most=30):
    """So many sequences of 1 to 4 unlike atoms of one house."""
    chance = random.Random(seed)
    told = []
    while len(told) < many:
        house = random_house(chance, chance.choice(("a", "ab", "ab")), 2)
        names = ("one", "two", "xx")[:chance.randint(1, 3)]
        found = []
        for _ in range(chance.randint(1, 4)):
            atom = random_atom(chance, house, names, 2)
            if chance.random() < 0.2:
                atom = Saying(house, (chance.choice(("all", "some")), chance.choice(names), random_saying(chance, house, names, 1, 0)))
            if atom not in found:
                found.append(atom)
        if is_small(all_of(found), most):
            told.append(found if chance.random() < 0.5 else tuple(found))
    return told


def made_saying(chance, atoms, deep):
    house = atoms[0].house
    word = chance.choice(("not", "and", "or", "if"))
    if deep == 0:
        return chance.choice(atoms)
    if word == "not":
        return Saying(house, (word, made_saying(chance, atoms, deep - 1)))
    return Saying(house, (word, made_saying(chance, atoms, deep - 1), made_saying(chance, atoms, deep - 1)))


def truth_in(atoms, saying, pattern):
    for atom, truth in zip(atoms, pattern):
        if saying == atom:
            return truth
    word, *inner = saying.form
    told = [truth_in(atoms, one, pattern) for one in inner]
    return {"not": lambda: not told[0], "and": lambda: all(told), "or": lambda: any(told), "if": lambda: not told[0] or told[1]}[word]()


def goes_by(pattern, road):
    return all(pattern[number] is truth for number, truth in road)


def coming(atoms):
    return [pattern for pattern, _ in patterns(atoms)]


def all_patterns(atoms):
    return list(product((False, True), repeat=len(atoms)))


def all_roads(many):
    """All roads with numbers ascending."""
    return [tuple(zip(numbers, truths)) for length in range(many + 1) for numbers in combinations(range(many), length)
            for truths in product((False, True), repeat=length)]


def nos_tried(atoms):
    come = coming(atoms)
    barred = {road for road in all_roads(len(atoms)) if not any(goes_by(pattern, road) for pattern in come)}
    found = [road for road in barred if not any(road[:at] + road[at + 1:] in barred for at in range(len(road)))]
    return tuple(sorted(found, key=lambda road: (len(road), road)))


def depth_tried(atoms, saying, road):
    if all(truth_in(atoms, saying, pattern) for pattern in all_patterns(atoms) if goes_by(pattern, road)):
        return 0
    if any(set(no) <= set(road) for no in nos_tried(atoms)):
        return 0
    free = [atom for atom in range(len(atoms)) if atom not in dict(road)]
    return 1 + min(max(depth_tried(atoms, saying, (*road, (atom, truth))) for truth in (False, True)) for atom in free)


def is_split_tried(atoms, saying, value, road=()):
    if value == ():
        return all(truth_in(atoms, saying, pattern) for pattern in all_patterns(atoms) if goes_by(pattern, road))
    if value[0] == "no":
        found = nos_tried(atoms)
        return value[1] < len(found) and set(found[value[1]]) <= set(road)
    atom, without, having = value
    if atom >= len(atoms) or atom in dict(road):
        return False
    return is_split_tried(atoms, saying, without, (*road, (atom, False))) and is_split_tried(atoms, saying, having, (*road, (atom, True)))


def depth(value):
    return 0 if value == () or value[0] == "no" else 1 + max(depth(value[1]), depth(value[2]))


def spoilt(chance, value):
    """A split with something in it changed."""
    if value != () and value[0] != "no" and chance.random() < 0.7:
        at = chance.choice((0, 1, 2, 2, 1))
        if at == 0:
            return (chance.randint(0, 4), *value[1:])
        return value[:at] + (spoilt(chance, value[at]),) + value[at + 1:]
    return chance.choice([(), ("no", chance.randint(0, 3)), (chance.randint(0, 3), (), ()), (chance.randint(0, 3), value, value)])


class PatternsTest(Checks, unittest.TestCase):
    def test_told_atoms(self):
        self.check_same(patterns(ROWS), (((False, False, True), (("one", "a"), ("two", "a"))), ((False, True, False), (("one", "a"), ("two", ""))),
                                         ((True, False, False), (("one", ""), ("two", "a"))), ((True, True, True), (("one", ""), ("two", "")))))
        self.check_same(patterns(atoms=tuple(SURE)), (((True, False, False), (("one", ""),)), ((True, False, True), (("one", "a"),))))
        self.check_same(patterns([said("odds('a') is even")]), (((False,), ()),))
        self.check_same(patterns([said("for all one odds(one) is even"), said("for some one odds(one) is even")]), (((False, True), ()),))

    def test_names_of_all_atoms(self):
        atoms = [said("ends(two) is yes"), said("odds(one) is odd"), said("for some one odds(one + xx) is even")]
        self.assertEqual(patterns(atoms)[0], ((False, False, True), (("one", ""), ("two", ""), ("xx", ""))))

    def test_as_fails_tells(self):
        for atoms in many_atoms(71, 80):
            told = dict(patterns(atoms))
            self.assertEqual(list(told), sorted(told))
            for pattern in all_patterns(atoms):
                pairs = [atom if truth else atom.negated() for atom, truth in zip(atoms, pattern)]
                self.assertEqual(told.get(pattern), fails(all_of(pairs).negated()))

    def test_by_trying_rows(self):
        for atoms in many_atoms(72, 40, 15):
            found = {}
            for rows in rows_of_names(all_of(atoms), 0):
                pattern = tuple(tried(atom, rows) for atom in atoms)
                told = tuple(sorted(rows.items()))
                found.setdefault(pattern, []).append((sum(len(row) for _, row in told), [row for _, row in told], told))
            self.assertEqual(patterns(atoms), tuple((pattern, min(found[pattern])[2]) for pattern in sorted(found)))


class RoadsTest(Checks, unittest.TestCase):
    def test_told_nos(self):
        self.check_same(nos(ROWS), (((0, False), (1, False), (2, False)), ((0, False), (1, True), (2, True)), ((0, True), (1, False), (2, True)),
                                    ((0, True), (1, True), (2, False))))
        self.check_same(nos(atoms=SURE), (((0, False),), ((1, True),)))
        self.check_same(nos([said("ends(one) is yes")]), ())
        self.check_same(nos([said("ends(one) is yes"), said("ends(one) is no")]), (((0, False), (1, False)), ((0, True), (1, True))))

    def test_nos(self):
        for atoms in many_atoms(73, 100):
            self.check_same(nos(atoms), nos_tried(atoms))

    def test_told_jumps(self):
        self.assertEqual(jump(ROWS, ((2, True), (0, True), (1, False))), 3)
        self.assertIsNone(jump(atoms=ROWS, road=((2, True), (0, True), (1, True))))
        self.assertIsNone(jump(ROWS, ()))
        self.assertEqual(jump(SURE, ((2, True), (1, True), (0, True))), 2)
        self.assertEqual(jump(SURE, ((1, True), (2, True))), 1)
        self.assertEqual(jump(SURE, [(2, True), (0, False)]), 2)

    def test_jumps(self):
        chance = random.Random(74)
        for atoms in many_atoms(74, 60):
            come = coming(atoms)
            for road in chance.sample(all_roads(len(atoms)), min(20, 3 ** len(atoms))):
                road = list(road)
                chance.shuffle(road)
                found = [many for many in range(len(road) + 1) if not any(goes_by(pattern, road[:many]) for pattern in come)]
                self.check_same(jump(atoms, tuple(road)), found[0] if found else None)
                # a road is barred exactly if it has all pairs of some no
                self.assertIs(jump(atoms, road) is not None, any(set(no) <= set(road) for no in nos(atoms)))


class MadeTest(Checks, unittest.TestCase):
    def test_follows(self):
        for text, is_true in (("( if ( odds(one) is even and odds(two) is even ) then odds(one + two) is even )", True), ("odds(one) is even", False),
                              ("( odds(one) is even or not odds(one) is even )", True),
                              ("( if odds(one) is even then odds(two) is even )", False),
                              ("not ( odds(one) is even and ( not odds(two) is even and odds(one + two) is even ) )", True)):
            self.assertIs(follows(ROWS, said(text)), is_true)
            self.assertIs(holds(said(text)), is_true)
        self.assertIs(follows(atoms=SURE, saying=SURE[0]), True)

    def test_told_cores(self):
        both = said("( if ( odds(one) is even and odds(two) is even ) then odds(one + two) is even )")
        self.check_same(cores(ROWS, both), ((3,),))
        # true whatever the atoms are: nothing is needed
        self.check_same(cores(ROWS, said("( odds(one) is even or not odds(one) is even )")), ((),))
        self.check_same(by_cases(ROWS, said("( odds(one) is even or not odds(one) is even )"))[0][1], ("cases", ()))
        self.assertIsNone(cores(atoms=ROWS, saying=ROWS[0]))
        self.check_same(cores(SURE, SURE[0]), ((0,),))
        # one wrong pattern, and two nos by which it goes
        self.check_same(cores(SURE, said("( odds(one + one) is even or not odds('a') is even )")), ((0,), (1,)))

    def test_made_sayings(self):
        chance = random.Random(75)
        follow = 0
        for atoms in many_atoms(75, 150):
            saying = made_saying(chance, atoms, chance.randint(0, 3))
            if chance.random() < 0.5:
                saying = Saying(saying.house, ("or", saying, made_saying(chance, atoms, 2)))
            is_true = all(truth_in(atoms, saying, pattern) for pattern in coming(atoms))
            follow += is_true
            self.assertIs(follows(atoms, saying), is_true)
            self.assertIs(holds(saying), is_true)
            self.check_same(cores(atoms, saying), self.cores_tried(atoms, saying) if is_true else None)
            self.check_cases(atoms, saying, is_true)
            if not is_true:
                # a pattern in which it is false comes, with rows at which it fails
                wrong = [dict(rows) for pattern, rows in patterns(atoms) if not truth_in(atoms, saying, pattern)]
                self.assertTrue(all(not tried(saying, rows) for rows in wrong))
        self.assertTrue(30 < follow < 130, follow)

    def cores_tried(self, atoms, saying):
        found = nos(atoms)
        wrong = [pattern for pattern in all_patterns(atoms) if not truth_in(atoms, saying, pattern)]
        # nos by which the same wrong patterns go stand for one another: so all lots of them are tried
        lots = [lot for length in range(len(found) + 1) for lot in combinations(range(len(found)), length)
                if all(any(goes_by(pattern, found[number]) for number in lot) for pattern in wrong)]
        sure = set(lots)
        return tuple(lot for lot in lots if not any(lot[:at] + lot[at + 1:] in sure for at in range(len(lot))))

    def check_cases(self, atoms, saying, is_true):
        lines = by_cases(atoms=atoms, saying=saying)
        if not is_true:
            self.assertIsNone(lines)
            return
        self.assertIs(deduction_holds(saying, lines), True)
        told = []
        for claim, why in lines[:-1]:
            self.assertEqual((why[0], claim.form[0]), ("tree", "not"))
            told.append(self.number_of_no(atoms, claim.form[1]))
        self.assertEqual((lines[-1][0], lines[-1][1][0]), (saying, "cases"))
        self.assertIn(tuple(sorted(told)), cores(atoms, saying))

    def number_of_no(self, atoms, claim):
        """The number of the no whose pairs are put together, in whichever way."""
        def pairs(saying):
            if saying.form[0] == "and":
                return pairs(saying.form[1]) + pairs(saying.form[2])
            if saying in list(atoms):
                return [(list(atoms).index(saying), True)]
            return [(list(atoms).index(saying.form[1]), False)]
        return nos(atoms).index(tuple(sorted(pairs(claim))))


class SplitsTest(Checks, unittest.TestCase):
    def test_told_splits(self):
        both = said("( if ( odds(one) is even and odds(two) is even ) then odds(one + two) is even )")
        self.assertEqual(least_depth(atoms=ROWS, saying=both), 3)
        self.assertEqual(depth(split(ROWS, both)), 3)
        self.check_same(split(ROWS, said("( odds(one) is even or not odds(one) is even )")), ())
        self.check_same(least_depth(ROWS, said("( odds(one) is even or not odds(one) is even )")), 0)
        self.check_same(split(SURE, SURE[0]), (0, ("no", 0), ()))
        self.assertIsNone(split(ROWS, ROWS[0]))
        self.assertIsNone(least_depth(ROWS, ROWS[0]))

    def test_what_holds(self):
        either = said("( odds(one + one) is even or ends(one) is yes )")
        for value, is_right in ((0, False), ((), False), ((0, ("no", 0), ()), True), ((0, ("no", 1), ()), False), ((0, (), ()), False),
                                # it goes on where it could end, with atoms that tell nothing
                                ((0, ("no", 0), (2, (), (1, (), ("no", 1)))), True), ((1, (0, ("no", 0), ()), ("no", 1)), True),
                                ((1, (0, ("no", 0), ()), (0, ("no", 1), ("no", 1))), True), ((2, (0, ("no", 0), ()), ()), True),
                                # an atom twice, the number of a no that the road has not
                                ((0, ("no", 0), (0, (), ())), False), ((2, (2, (), ()), ()), False), ((0, ("no", 0), ("no", 0)), False),
                                ((0, ("no", 2), ()), False), ((0, ("no", -2), ()), False), ((3, (), ()), False), ((-1, (), ()), False),
                                ((0, ("no", False), ()), False), ((False, ("no", 0), ()), False), ((0, ["no", 0], ()), False), ((0, ("no", 0), []), False),
                                ([0, ("no", 0), ()], False), ((0, ("no", 0)), False), ((0, ("no", 0), (), ()), False), ((0, ("no",), ()), False),
                                ((0, ("yes", 0), ()), False), (("no", 0), False), (("no", ("no", 0), ()), False), (None, False)):
            self.assertIs(split_holds(SURE, either, value), is_right, value)
        self.assertIs(split_holds(SURE, said("( odds(one + one) is even or not odds(one + one) is even )"), ()), True)
        self.assertIs(split_holds(atoms=SURE, saying=SURE[2], value=()), False)

    def test_any_values(self):
        sure = said("( odds(one) is even or not odds(one) is even )")
        for value in any_values():
            self.assertIs(split_holds(ROWS, ROWS[0], value), False)
            self.assertIs(split_holds(ROWS, sure, value), value == ())
            self.assertIs(split_holds(ROWS, sure, (0, (), value)), value == ())
            self.assertIs(split_holds(SURE, SURE[0], (0, ("no", value), ())), value == 0 and value is not False)
            self.assertIs(split_holds(ROWS, sure, (value, (), ())), value in (0, 1, 2) and not isinstance(value, bool))

    def test_by_definition(self):
        chance = random.Random(76)
        right = wrong = 0
        for atoms in many_atoms(76, 80):
            saying = made_saying(chance, atoms, chance.randint(0, 3))
            told = split(atoms=atoms, saying=saying)
            self.assertIs(told is not None, follows(atoms, saying))
            if told is None:
                self.assertIsNone(least_depth(atoms, saying))
                told = (0, (), ())
            else:
                self.assertEqual(least_depth(atoms, saying), depth_tried(atoms, saying, ()))
                self.assertEqual(depth(told), least_depth(atoms, saying))
                self.assertIs(split_holds(atoms, saying, told), True)
            for _ in range(8):
                value = spoilt(chance, told)
                is_right = is_split_tried(atoms, saying, value)
                right += is_right
                wrong += not is_right
                self.assertIs(split_holds(atoms, saying, value), is_right, value)
        self.assertTrue(right > 50 and wrong > 50, (right, wrong))


if __name__ == "__main__":
    unittest.main()
