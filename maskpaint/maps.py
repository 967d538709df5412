"""Maps, their lots and their bare rows."""

from math import perm

from maskpaint.checks import check_house, check_lot, check_map, check_number
from maskpaint.lots import (
    all_lots, every_house, fewest_paints, is_mutual, lots_of_size, neighbors, share, ways_to_part)

MOST_PAINTS = 9
ROW_LENGTH = 4


def near(town, house):
    """The ascending tuple of the neighbors of a house."""
    check_map(town)
    check_house(town, house)
    return neighbors(town)[house]


def need(town, lot):
    """The fewest paints with which a lot can be painted, neighbors unlike."""
    check_map(town)
    check_lot(town, lot)
    return fewest_paints(neighbors(town), lot)


def count_paintings(town, paints):
    """In how many ways all houses can be painted with paints up to a number."""
    check_map(town)
    check_number(paints, 0, MOST_PAINTS)
    ways = ways_to_part(neighbors(town), every_house(town))
    # The heaps of one way get unlike paints: a choice of so many in sequence.
    return sum([perm(paints, len(heaps)) for heaps in ways])


def most_mutual(town):
    """The ascending tuple of the greatest lots each two of which are neighbors."""
    check_map(town)
    beside = neighbors(town)
    lots = [lot for lot in all_lots(town) if is_mutual(beside, lot)]
    return lots_of_size(lots, max([len(lot) for lot in lots]))


def goes_on(beside, row, house):
    """Whether a house is a neighbor of the last one of a row and of no other in it."""
    return house in beside[row[-1]] and house not in row and not share(beside[house], row[:-1])


def bare_rows(town):
    """The ascending tuple of the bare rows, each from its lesser end on."""
    check_map(town)
    beside = neighbors(town)
    rows = [(house,) for house in range(town[0])]
    for _ in range(ROW_LENGTH - 1):
        rows = [row + (house,) for row in rows for house in range(town[0]) if goes_on(beside, row, house)]
    return tuple(sorted([row for row in rows if row[0] < row[-1]]))


def is_good(town):
    """Whether a map has no bare row."""
    return len(bare_rows(town)) == 0


def left_out(town):
    """The ascending tuple of the smallest lots that have somebody of each bare row."""
    rows = bare_rows(town)
    lots = [lot for lot in all_lots(town) if all(share(row, lot) for row in rows)]
    return lots_of_size(lots, min([len(lot) for lot in lots]))
