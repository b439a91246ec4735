"""Going to all that rows lead to, sign by sign, the least rows first."""


def walked(signs, begin, lead):
    """All things to which rows lead from the beginning, each with its least row, in the order of these rows.

    lead(thing, at) is where the sign with the number at leads a thing.
    """
    return _walked_until(signs, begin, lead, _never)


def walked_table(signs, begin, lead):
    """All things to which rows lead, their least rows, and for each the numbers of those to which the signs lead it.

    Three lists, in the order of these rows; lead as of walked.
    """
    things = [begin]
    rows = [""]
    numbers = {begin: 0}
    table = []
    at = 0
    while at < len(things):
        targets = []
        for place, sign in enumerate(signs):
            following = lead(things[at], place)
            if following not in numbers:
                numbers[following] = len(things)
                things.append(following)
                rows.append(rows[at] + sign)
            targets.append(numbers[following])
        table.append(targets)
        at += 1
    return (things, rows, table)


def least_way(signs, begin, lead, is_good):
    """The least row that leads from the beginning to something good, or None."""
    thing, row = _walked_until(signs, begin, lead, is_good)[-1]
    return row if is_good(thing) else None


def _never(thing):
    return False


def _walked_until(signs, begin, lead, is_last):
    """As walked, but nothing behind the first thing that is the last one."""
    things = [begin]
    rows = {begin: ""}
    at = 0
    # rows in their order, each with one sign more at its end, come in their order again
    while at < len(things) and not is_last(things[-1]):
        for number, sign in enumerate(signs):
            following = lead(things[at], number)
            if following not in rows:
                rows[following] = rows[things[at]] + sign
                things.append(following)
                if is_last(following):
                    break
        at += 1
    return [(thing, rows[thing]) for thing in things]
