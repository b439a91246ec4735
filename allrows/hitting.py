"""Least lots: those of which no part will do."""


def least_lots(lots):
    """Of these lots those in which no other one lies, each once; shorter ones first, then ascending."""
    found = []
    for lot in sorted(lots, key=_lot_order):
        if not any([_lies_in(less, lot) for less in found]):
            found.append(lot)
    return found


def least_hits(lots):
    """All least lots that have something of each of these, in the same order."""
    hits = [()]
    for lot in lots:
        further = [hit for hit in hits if _meets(hit, lot)]
        for hit in hits:
            if not _meets(hit, lot):
                further.extend([tuple(sorted([*hit, thing])) for thing in lot])
        hits = least_lots(further)
    return hits


def _lot_order(lot):
    return (len(lot), lot)


def _lies_in(less, lot):
    return all([thing in lot for thing in less])


def _meets(one, other):
    return any([thing in other for thing in one])
