"""Classes of things: equal ones, and numbered ones that lead to one another."""


def components(targets):
    """For each number that of its class: those that lead to one another, numbered as they come first."""
    sources = [[] for _ in targets]
    for number, ends in enumerate(targets):
        for end in ends:
            sources[end].append(number)
    class_of = {}
    # backwards from what is finished last, nothing outside a class is left to come to
    for number in reversed(_by_finish(targets)):
        if number not in class_of:
            _mark_all(sources, number, class_of)
    return numbered([class_of[number] for number in range(len(targets))])


def _mark_all(sources, begin, class_of):
    """Put all that is come to from the beginning, and has no class yet, into its class."""
    class_of[begin] = begin
    waiting = [begin]
    while waiting:
        number = waiting.pop()
        for source in sources[number]:
            if source not in class_of:
                class_of[source] = begin
                waiting.append(source)


def _by_finish(targets):
    """The numbers, each behind all that were first come to from it."""
    finished = []
    met = {}
    for begin in range(len(targets)):
        if begin in met:
            continue
        met[begin] = True
        waiting = [(begin, 0)]
        while waiting:
            number, at = waiting.pop()
            if at == len(targets[number]):
                finished.append(number)
                continue
            waiting.append((number, at + 1))
            end = targets[number][at]
            if end not in met:
                met[end] = True
                waiting.append((end, 0))
    return finished


def numbered(things):
    """For each thing the number that equal ones have, in the order in which they come first."""
    numbers = {}
    for thing in things:
        numbers.setdefault(thing, len(numbers))
    return [numbers[thing] for thing in things]


def alike_numbers(table, things):
    """For each number that of its class, as they come first: those that all rows lead to equal things.

    The table has for each number those to which the signs lead it.
    """
    groups = numbered(things)
    while True:
        finer = numbered([
            (group, tuple([groups[target] for target in targets])) for group, targets in zip(groups, table)
        ])
        if max(finer) == max(groups):
            return finer
        groups = finer
