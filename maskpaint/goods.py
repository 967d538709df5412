"""Good maps, which have no bare row."""

from maskpaint.checks import check_map, check_number
from maskpaint.maps import is_good

MOST_COUNTED = 5


def all_pairs(houses):
    """The ascending tuple of all pairs of so many houses, the lesser one first."""
    return tuple([(one, other) for one in range(houses) for other in range(one + 1, houses)])


def all_maps(houses):
    """All maps of so many houses."""
    choices = [()]
    for pair in all_pairs(houses):
        choices = choices + [pairs + (pair,) for pairs in choices]
    return [(houses, pairs) for pairs in choices]


def count_good(houses):
    """How many maps of so many houses have no bare row."""
    check_number(houses, 1, MOST_COUNTED)
    return len([town for town in all_maps(houses) if is_good(town)])


def with_pair_turned(town, pair):
    """The map in which a pair are neighbors if they weren't, and otherwise are none."""
    houses, pairs = town
    return (houses, tuple([one for one in all_pairs(houses) if (one in pairs) != (one == pair)]))


def mends(town):
    """The ascending tuple of the pairs each of which, turned, leaves a map without bare rows."""
    check_map(town)
    return tuple([pair for pair in all_pairs(town[0]) if is_good(with_pair_turned(town, pair))])


def other_side(town):
    """The map of as many houses in which just those are neighbors who weren't."""
    check_map(town)
    houses, pairs = town
    return (houses, tuple([pair for pair in all_pairs(houses) if pair not in pairs]))
