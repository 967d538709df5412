"""Twins, rows of twins, and maps that grow by a house."""

from maskpaint.checks import MOST_HOUSES, check_lot, check_map, is_coming
from maskpaint.errors import TooMany
from maskpaint.goods import all_pairs
from maskpaint.lots import all_lots, every_house, neighbors, without
from maskpaint.maps import is_good

NEAR = "near"
APART = "apart"


def are_twins(beside, one, other, lot):
    """Whether each other house of a lot is a neighbor of both of two houses or of neither."""
    return all((house in beside[one]) == (house in beside[other]) for house in lot if house not in (one, other))


def has_twin(beside, house, lot):
    """Whether a house has a twin in a lot, on the map of itself and that lot."""
    return any(other != house and are_twins(beside, house, other, lot) for other in lot)


def twins(town):
    """The ascending tuple of the triples of two twins, the lesser one first, and "near" or "apart"."""
    check_map(town)
    houses, pairs = town
    beside, everyone = neighbors(town), every_house(town)
    return tuple([
        (one, other, NEAR if (one, other) in pairs else APART)
        for one, other in all_pairs(houses) if are_twins(beside, one, other, everyone)])


def twin_row(town):
    """A tuple of all houses, each a twin of one ahead on the map of itself and those ahead, or None."""
    check_map(town)
    beside = neighbors(town)
    left, row = every_house(town), ()
    while len(left) > 1:
        # Whoever has a twin may stand last: no bare row goes with it, as the twin can take its place.
        last = [house for house in left if has_twin(beside, house, left)][:1]
        if len(last) == 0:
            return None
        left, row = without(left, last), tuple(last) + row
    return left + row


def shows_twin_row(town, value):
    """Whether a value is what twin_row may return."""
    if twin_row(town) is None:
        return value is None
    if not is_coming(value, town[0]) or len(value) != town[0]:
        return False
    beside = neighbors(town)
    return all(has_twin(beside, value[at], value[:at]) for at in range(1, len(value)))


def check_room(town):
    """Raise TooMany unless a map may have one house more."""
    if town[0] == MOST_HOUSES:
        raise TooMany(MOST_HOUSES)


def with_house(town, lot):
    """The map with one house more, numbered last, whose neighbors are a lot."""
    check_map(town)
    check_lot(town, lot)
    check_room(town)
    houses, pairs = town
    return (houses + 1, tuple(sorted(pairs + tuple([(house, houses) for house in lot]))))


def may_come(town):
    """The ascending tuple of the lots with which with_house has no bare row."""
    check_map(town)
    check_room(town)
    return tuple(sorted([lot for lot in all_lots(town) if is_good(with_house(town, lot))]))
