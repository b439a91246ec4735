"""Sayings: what readers of a house tell of the rows of terms."""

from allrows.errors import Bound, InvalidSaying
from allrows.readers import is_mark
from allrows.sayingtexts import steps_of_text
from allrows.terms import Term, is_over
from allrows.values import is_name


class Saying:
    """A house, and a form: tuples with terms, names of readers, marks and sayings."""

    def __init__(self, house, form):
        if not _is_form(form, house):
            raise InvalidSaying("form")
        if not all([house.has_reader(reader) for reader, term in readings_of(form)]):
            raise InvalidSaying("reader")
        if form[0] == "is" and not is_mark(house.reader_of(form[1]), form[3]):
            raise InvalidSaying("mark")
        self.house = house
        self.form = form
        # kept, so that nothing goes down all sayings within one another again
        self._free = _free_names(form)
        self._text = _text_of_form(form)

    @classmethod
    def parse(cls, house, text):
        made = []
        for step in steps_of_text(house.signs, text):
            form = _form_of_step(step, made)
            made.append(cls(house, form))
        return made[-1]

    @property
    def names(self):
        return self._free

    def put(self, name, term):
        """The saying with a term in the place of each free occurrence of a name."""
        bound = _bound_names_around(self, name)
        for own in term.names:
            if own in bound:
                raise Bound(own)
        return _with_term(self, name, term)

    def negated(self):
        if self.form[0] == "not":
            return self.form[1]
        return Saying(self.house, ("not", self))

    def __eq__(self, other):
        # a form has just one text
        return isinstance(other, Saying) and self._text == other._text and self.house == other.house

    def __str__(self):
        return str(self._text)


def is_atom(form):
    return form[0] in ("is", "same")


def is_quantified(form):
    return form[0] in ("all", "some")


def readings_of(form):
    """The pairs of a reader's name and a term in a form itself."""
    if form[0] == "is":
        return [(form[1], form[2])]
    if form[0] == "same":
        return [(form[1], form[2]), (form[3], form[4])]
    return []


def inner_sayings(form):
    if is_atom(form):
        return []
    return [form[2]] if is_quantified(form) else list(form[1:])


def peeled(saying):
    """The saying without the signs of "not" ahead of it, and how many these are."""
    many = 0
    while saying.form[0] == "not":
        saying = saying.form[1]
        many += 1
    return (saying, many)


def _is_form(value, house):
    if not isinstance(value, tuple) or len(value) == 0:
        return False
    if value[0] == "is":
        return len(value) == 4 and _is_term(value[2], house)
    if value[0] == "same":
        return len(value) == 5 and _is_term(value[2], house) and _is_term(value[4], house)
    if value[0] in ("all", "some"):
        return len(value) == 3 and is_name(value[1]) and _is_saying(value[2], house)
    if value[0] == "not":
        return len(value) == 2 and _is_saying(value[1], house)
    if value[0] in ("and", "or", "if"):
        return len(value) == 3 and _is_saying(value[1], house) and _is_saying(value[2], house)
    return False


def _is_term(value, house):
    return isinstance(value, Term) and is_over(value, house.signs)


def _is_saying(value, house):
    return isinstance(value, Saying) and value.house == house


def _free_names(form):
    names = [name for reader, term in readings_of(form) for name in term.names]
    names.extend([name for saying in inner_sayings(form) for name in saying.names])
    if is_quantified(form):
        names = [name for name in names if name != form[1]]
    return tuple(sorted(set(names)))


def _text_of_form(form):
    if form[0] == "is":
        return f"{form[1]}({form[2]}) is {form[3]}"
    if form[0] == "same":
        return f"{form[1]}({form[2]}) is {form[3]}({form[4]})"
    if form[0] == "not":
        return f"not {form[1]}"
    if is_quantified(form):
        return f"for {form[0]} {form[1]} {form[2]}"
    if form[0] == "if":
        return f"( if {form[1]} then {form[2]} )"
    return f"( {form[1]} {form[0]} {form[2]} )"


def _form_of_step(step, made):
    """The form that a step makes of the last sayings that are made, which it takes away."""
    if is_atom(step):
        return step
    last = made.pop()
    if step[0] in ("and", "or", "if"):
        return (step[0], made.pop(), last)
    return (*step, last)


def _bound_names_around(saying, name):
    """The names that are bound where a name stands free, as a dict."""
    bound = {}
    waiting = [(saying, ())]
    while waiting:
        one, around = waiting.pop()
        if name not in one.names:
            continue
        if is_atom(one.form):
            for own in around:
                bound[own] = True
        elif is_quantified(one.form):
            around = (*around, one.form[1])
        waiting.extend([(inner, around) for inner in inner_sayings(one.form)])
    return bound


def _with_term(saying, name, term):
    if name not in saying.names:
        return saying
    inner, many = peeled(saying)
    form = inner.form
    if form[0] == "is":
        done = ("is", form[1], form[2].put(name, term), form[3])
    elif form[0] == "same":
        done = ("same", form[1], form[2].put(name, term), form[3], form[4].put(name, term))
    elif is_quantified(form):
        done = (form[0], form[1], _with_term(form[2], name, term))
    else:
        done = (form[0], _with_term(form[1], name, term), _with_term(form[2], name, term))
    told = Saying(saying.house, done)
    for _ in range(many):
        told = Saying(saying.house, ("not", told))
    return told
