"""Names in their order, and readers whose marks are named by the least rows that lead to them."""

from allrows.readers import Reader
from allrows.values import is_name
from allrows.walks import walked_table

_FIRST_LETTERS = "mnopqrstuvwxyz"
_LETTERS = "abcdefghijklmnopqrstuvwxyz"


def mark_names(many):
    """The first so many names of ma, mb, .., mz, na, .., zz, maa, mab, .."""
    return _first_names(_FIRST_LETTERS, many, ())


def new_names(many, taken):
    """The first so many names of aa, ab, .., zz, aaa, aab, .. that are not taken."""
    return _first_names(_LETTERS, many, taken)


def _first_names(first_letters, many, taken):
    names = []
    stems = list(first_letters)
    while len(names) < many:
        stems = [stem + letter for stem in stems for letter in _LETTERS]
        names.extend([stem for stem in stems if is_name(stem) and stem not in taken])
    return names[:many]


def named_reader(signs, begin, lead):
    """The reader with a mark for each thing that is come to, and the list of these things.

    lead(thing, at) is where the sign with the number at leads a thing.
    """
    things, _, table = walked_table(signs, begin, lead)
    names = mark_names(len(things))
    steps = [[names[number] for number in targets] for targets in table]
    return (Reader(signs, names, names[0], steps), things)
