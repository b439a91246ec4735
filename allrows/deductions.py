"""Deductions: what their lines use, which are wanted, and how they are put together, made and mended."""

from allrows.claims import failing_rows, shown_by_itself
from allrows.errors import NoName
from allrows.looker import is_right, step_of
from allrows.naming import new_names
from allrows.sayings import Saying, inner_sayings, is_quantified, readings_of
from allrows.terms import Term
from allrows.whys import lines_of_why, told_name, turned_why


def uses(lines):
    """For each line all lines that it uses, at once or through others."""
    told = []
    for at, (_, why) in enumerate(lines):
        found = {}
        for number in lines_of_why(why, at):
            found[number] = True
            for further in told[number]:
                found[further] = True
        told.append(tuple(sorted(list(found))))
    return tuple(told)


def told_of(lines):
    """All told names that the last line uses, or is."""
    names = [told_name(lines[number][1]) for number in _wanted(lines)]
    return tuple(sorted(set([name for name in names if name is not None])))


def _wanted(lines):
    """The numbers of the last line and of those that it uses."""
    return [*uses(lines)[-1], len(lines) - 1]


def shortened(lines):
    """The deduction without the lines that the last one does not use."""
    wanted = _wanted(lines)
    places = {number: place for place, number in enumerate(wanted)}
    return tuple([_turned_line(lines, number, places) for number in wanted])


def _turned_line(lines, number, places):
    claim, why = lines[number]
    return (claim, turned_why(why, number, places))


def filled(lines, name, other):
    """The lines of the other deduction, then these, without those that are told by this name what the other shows."""
    places = {}
    left = []
    for at, (claim, why) in enumerate(lines):
        if told_name(why) == name and claim == other[-1][0]:
            places[at] = len(other) - 1
        else:
            places[at] = len(other) + len(left)
            left.append(_turned_line(lines, at, places))
    return tuple([*other, *left])


def deduction_of(claim):
    """Some right deduction of one line, None if the claim is not true."""
    why = shown_by_itself(claim)
    return None if why is None else ((claim, why),)


def grown(saying, name):
    """Some right deduction by growing rows of a name, None if the saying is not true."""
    _check_free(saying, name)
    claims = [saying.put(name, Term([]))]
    claims.extend([step_of(saying, name, sign) for sign in saying.house.signs])
    lines = [(claim, shown_by_itself(claim)) for claim in claims]
    if any([why is None for claim, why in lines]):
        return None
    lines.append((saying, ("grow", name, 0, tuple(range(1, len(lines))))))
    return tuple(lines)


def kept(saying, name):
    """The saying that holds for rows for which the given one holds, however they go on."""
    _check_free(saying, name)
    further = new_names(1, _names_within(saying))[0]
    longer = saying.put(name, Term.of_name(name) + Term.of_name(further))
    return Saying(saying.house, ("all", further, longer))


def _check_free(saying, name):
    if name not in saying.names:
        raise NoName(name)


def _names_within(saying):
    """All names of rows in a saying, free and bound ones."""
    names = {}
    waiting = [saying]
    while waiting:
        form = waiting.pop().form
        if is_quantified(form):
            names[form[1]] = True
        for _, term in readings_of(form):
            for name in term.names:
                names[name] = True
        waiting.extend(inner_sayings(form))
    return names


def failures(lines, told=()):
    """The triples of number, whether right, and failing rows, of all lines that are not right or not true."""
    found = []
    for at, (claim, _) in enumerate(lines):
        is_good = is_right(lines, at, told)
        rows = failing_rows(claim)
        if not is_good or rows is not None:
            found.append((at, is_good, rows))
    return tuple(found)


def mended(lines, told=()):
    """A right deduction of the last claim, None if it is not true."""
    is_true = [failing_rows(claim) is None for claim, why in lines]
    if not is_true[-1]:
        return None
    places = {}
    done = []
    for at, used in enumerate(uses(lines)):
        if not is_true[at]:
            continue
        if is_right(lines, at, told) and all([is_true[number] for number in used]):
            line = _turned_line(lines, at, places)
        else:
            line = (lines[at][0], shown_by_itself(lines[at][0]))
        places[at] = len(done)
        done.append(line)
    return shortened(tuple(done))
