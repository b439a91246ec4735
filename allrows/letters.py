"""Sayings by their letters: the parts that are "is", "same", "all" or "some".

In how many ways letters are called true and false is a power of two; in which of them a saying is true is told by an
integer, with a bit for each way.
"""

from allrows.sayings import inner_sayings, is_atom, is_quantified, peeled


def is_letter(saying):
    return is_atom(saying.form) or is_quantified(saying.form)


def letters_of(sayings):
    """The numbers of the letters of sayings of one house, in the order in which they come first, by their texts."""
    numbers = {}
    waiting = sayings[::-1]
    while waiting:
        part, _ = peeled(waiting.pop())
        if is_letter(part):
            numbers.setdefault(str(part), len(numbers))
        else:
            waiting.extend(inner_sayings(part.form)[::-1])
    return numbers


def all_ways(many):
    """All ways in which so many letters can be called."""
    return (1 << (1 << many)) - 1


def true_ways(saying, numbers):
    """The ways to call the letters in which a saying made of them is true."""
    part, nots = peeled(saying)
    if is_letter(part):
        told = _ways_of_letter(numbers[str(part)], len(numbers))
    else:
        word, one, other = part.form
        ways = true_ways(one, numbers)
        if word == "and":
            told = ways & true_ways(other, numbers)
        elif word == "or":
            told = ways | true_ways(other, numbers)
        else:
            told = (all_ways(len(numbers)) ^ ways) | true_ways(other, numbers)
    return told if nots % 2 == 0 else all_ways(len(numbers)) ^ told


def _ways_of_letter(number, many):
    """The ways in which the letter with a number is called true: those whose own bit with this number is there."""
    ways = 0
    for way in range(1 << many):
        if (way >> number) & 1 == 1:
            ways = ways | (1 << way)
    return ways
