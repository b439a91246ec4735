"""Looking through deductions, each line by itself."""

from allrows.acts import act
from allrows.claims import house_of, is_bound, is_deduction
from allrows.errors import Bound
from allrows.heights import heights_hold
from allrows.letters import all_ways, letters_of, true_ways
from allrows.sayings import Saying, inner_sayings, peeled, readings_of
from allrows.terms import Term, is_over
from allrows.trees import tree_for_holds
from allrows.whys import is_why, lines_of_why

_MOST_LETTERS = 8


def first_wrong(lines, told=()):
    """The number of the first line that is not right, or None."""
    for at in range(len(lines)):
        if not is_right(lines, at, told):
            return at
    return None


def deduction_holds(claim, value, told=()):
    """Whether any value is a deduction of the claim whose lines are all right."""
    if not is_deduction(value, house_of(claim)):
        return False
    return value[-1][0] == claim and first_wrong(value, told) is None


def is_right(lines, at, told):
    """Whether the line with a number has a why that gives its claim."""
    claim, why = lines[at]
    if not is_why(why, at):
        return False
    if why[0] == "told":
        return any([name == why[1] and own == claim for name, own in told])
    used = [lines[number][0] for number in lines_of_why(why, at)]
    if is_bound(claim) != (why[0] in _BOUND_RULES):
        return False
    rule = _BOUND_RULES[why[0]] if is_bound(claim) else _SAYING_RULES[why[0]]
    return rule(claim, why, used)


def _is_shown_by_tree(claim, why, used):
    return tree_for_holds(claim, why[1])


def _is_shown_by_heights(claim, why, used):
    return heights_hold(claim[1], claim[3], claim[2], why[1])


def _is_put(claim, why, used):
    return not is_bound(used[0]) and _is_with_term(claim, used[0], why[2], why[3])


def _is_with_term(claim, saying, name, term):
    """Whether a saying with the term put for the name is the claim, and none of the term's names is bound there."""
    if not is_over(term, saying.house.signs):
        return False
    try:
        return saying.put(name, term) == claim
    except Bound:
        return False


def _follows_by_cases(claim, why, used):
    if any([is_bound(one) for one in used]):
        return False
    numbers = letters_of([*used, claim])
    if len(numbers) > _MOST_LETTERS:
        return False
    ways = all_ways(len(numbers))
    for one in used:
        ways = ways & true_ways(one, numbers)
    return ways & true_ways(claim, numbers) == ways


def _is_alike(claim, why, used):
    return not is_bound(used[0]) and _are_alike(claim, used[0])


def _are_alike(one, other):
    """Whether two sayings are the same but for plain rows that act alike."""
    waiting = [(one, other)]
    while waiting:
        pair = waiting.pop()
        part, many = peeled(pair[0])
        other_part, other_many = peeled(pair[1])
        if many != other_many or _bare_form(part.form) != _bare_form(other_part.form):
            return False
        for (name, term), (_, other_term) in zip(readings_of(part.form), readings_of(other_part.form)):
            reader = one.house.reader_of(name)
            if _acting_parts(reader, term) != _acting_parts(reader, other_term):
                return False
        waiting.extend(list(zip(inner_sayings(part.form), inner_sayings(other_part.form))))
    return True


def _bare_form(form):
    """What of a form is no term and no saying."""
    return [thing for thing in form if isinstance(thing, str)]


def _acting_parts(reader, term):
    """The parts of a term with names, and the acts of the rows ahead of, between and behind them."""
    told = []
    row = ""
    for part in term.parts:
        if part[0] == "row":
            row = part[1]
        else:
            told.extend([act(reader, row), part])
            row = ""
    return told + [act(reader, row)]


def _grows(claim, why, used):
    name = why[1]
    signs = claim.house.signs
    if any([is_bound(one) for one in used]) or name not in claim.names or len(why[3]) != len(signs):
        return False
    if used[0] != claim.put(name, Term([])):
        return False
    return list(used[1:]) == [step_of(claim, name, sign) for sign in signs]


def step_of(saying, name, sign):
    """The saying that if a saying holds, it also does with a sign more at the end of the row of a name."""
    longer = saying.put(name, Term.of_name(name) + Term.of_row(sign))
    return Saying(saying.house, ("if", saying, longer))


def _is_opened_or_closed(claim, why, used):
    if is_bound(used[0]):
        return False
    return _is_for_all(claim, used[0]) or _is_for_all(used[0], claim)


def _is_for_all(claim, saying):
    return claim.form[0] == "all" and claim.form[2] == saying


def _is_for_some(claim, why, used):
    if is_bound(used[0]) or claim.form[0] != "some":
        return False
    return _is_with_term(used[0], claim.form[2], claim.form[1], why[2])


def _is_weaker(claim, why, used):
    bound, step = used
    if not is_bound(bound) or is_bound(step) or bound[1] != claim[1] or bound[2] > claim[2]:
        return False
    return step.form[0] == "if" and step.form[1] == claim[3] and step.form[2] == bound[3]


def _is_put_together(claim, why, used):
    one, other = used
    if not is_bound(one) or not is_bound(other) or one[3] != claim[3] or other[3] != claim[3]:
        return False
    return one[1] + other[1] == claim[1] and one[2] + other[2] <= claim[2]


_SAYING_RULES = {
    "tree": _is_shown_by_tree,
    "put": _is_put,
    "cases": _follows_by_cases,
    "alike": _is_alike,
    "grow": _grows,
    "all": _is_opened_or_closed,
    "some": _is_for_some,
}
_BOUND_RULES = {
    "heights": _is_shown_by_heights,
    "weaker": _is_weaker,
    "sum": _is_put_together,
}
