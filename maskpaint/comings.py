"""Comings: houses that come one by one, painted by the least rule."""

from maskpaint.checks import check_coming, check_map, is_lot
from maskpaint.lots import all_lots, fewest_paints, is_heap, neighbors, share, without


def least_paint(taken):
    """The least paint, from 1, that is none of those taken."""
    paint = 1
    while paint in taken:
        paint += 1
    return paint


def pot_paints(beside, coming, pots):
    """The tuple of the paints that the least rule gives with so many pots, None for who is sent away."""
    told = {}
    for house in coming:
        paint = least_paint([told[other] for other in beside[house] if other in told])
        if paint <= pots:
            told[house] = paint
    return tuple([told.get(house) for house in coming])


def rule_paints(beside, coming):
    """The tuple of the paints that the houses of a coming get by the least rule."""
    # With as many pots as there are houses nobody is sent away.
    return pot_paints(beside, coming, len(beside))


def paints_wasted(beside, coming, told):
    """How many more unlike paints are told than the houses of a coming need."""
    return len(set(told)) - fewest_paints(beside, coming)


def paints(town, coming):
    """The tuple of the paints that the houses of a coming get by the least rule."""
    check_map(town)
    check_coming(town, coming)
    return rule_paints(neighbors(town), coming)


def wasted(town, coming):
    """How many more unlike paints the least rule uses on a coming than its houses need."""
    told = paints(town, coming)
    return paints_wasted(neighbors(town), coming, told)


def longest_row(beside, lot, heaps, rows):
    """The longest row of heaps of a lot, from those of all smaller lots."""
    longest = ()
    for heap in heaps:
        rest = without(lot, heap)
        if len(rest) + len(heap) == len(lot) and all(share(beside[house], heap) for house in rest):
            row = (heap,) + rows[rest]
            if len(row) > len(longest):
                longest = row
    return longest


def longest_rows(town):
    """For each lot a longest row of heaps of all its houses, each with a neighbor in each heap ahead.

    The least rule gives the houses of the first heap paint 1, then those of the next one paint 2,
    and so on; and the houses of one paint always are such a heap.
    """
    beside = neighbors(town)
    lots = all_lots(town)
    heaps = [lot for lot in lots if len(lot) > 0 and is_heap(beside, lot)]
    rows = {}
    for lot in lots:
        rows[lot] = longest_row(beside, lot, heaps, rows)
    return rows


def in_sequence(row):
    """The tuple of the houses of a row of heaps, heap by heap."""
    return tuple([house for heap in row for house in heap])


def worst_lots(town):
    """A longest row of heaps, none empty, each house with a neighbor in each heap ahead."""
    check_map(town)
    rows = list(longest_rows(town).values())
    most = max([len(row) for row in rows])
    longest = [row for row in rows if len(row) == most]
    # One of the fewest houses, as worst_coming is to be as short as can be.
    return min(longest, key=lambda row: len(in_sequence(row)))


def worst(town):
    """The most paints that the least rule uses on any coming."""
    return len(worst_lots(town))


def worst_coming(town):
    """A shortest coming on which the least rule uses the most paints."""
    return in_sequence(worst_lots(town))


def most_wasted(town):
    """The greatest waste of the least rule on any coming."""
    check_map(town)
    beside = neighbors(town)
    rows = longest_rows(town)
    return max([len(rows[lot]) - fewest_paints(beside, lot) for lot in rows])


def stands_behind(beside, heap, heaps_ahead):
    """Whether each house of a heap has a neighbor in each heap ahead."""
    # So it is in none of them: the houses of a heap have no neighbors in it.
    return all(share(beside[house], ahead) for house in heap for ahead in heaps_ahead)


def are_heaps_in_row(beside, values):
    """Whether the values of a tuple are heaps, none empty, each of which stands behind those ahead."""
    for at, heap in enumerate(values):
        if not is_lot(heap, len(beside)) or len(heap) == 0 or not is_heap(beside, heap):
            return False
        if not stands_behind(beside, heap, values[:at]):
            return False
    return True


def shows_worst_lots(town, value):
    """Whether a value is what worst_lots may return."""
    most = worst(town)
    return isinstance(value, tuple) and len(value) == most and are_heaps_in_row(neighbors(town), value)
