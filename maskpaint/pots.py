"""The least rule with so many pots, and the houses that are sent away."""

from maskpaint.checks import check_coming, check_lot, check_map, check_number, is_coming, is_number
from maskpaint.comings import pot_paints
from maskpaint.lots import all_lots, fewest_paints, neighbors, without
from maskpaint.maps import bare_rows

MOST_POTS = 9
POTS_FOR_ROW = 2


def by_pots(town, coming, pots):
    """The tuple of the paints by the least rule with so many pots, None for a house that is sent away."""
    check_map(town)
    check_coming(town, coming)
    check_number(pots, 0, MOST_POTS)
    return pot_paints(neighbors(town), coming, pots)


def sent_away(town, coming, pots):
    """The tuple of the houses that are sent away, as they come."""
    told = by_pots(town, coming, pots)
    return tuple([house for at, house in enumerate(coming) if told[at] is None])


def fewest_away(town, lot, pots):
    """The fewest houses of a lot without which the others need no more paints than pots."""
    check_map(town)
    check_lot(town, lot)
    check_number(pots, 0, MOST_POTS)
    beside = neighbors(town)
    parts = [part for part in all_lots(town) if len(without(part, lot)) == 0]
    return len(lot) - max([len(part) for part in parts if fewest_paints(beside, part) <= pots])


def slip(town):
    """A pair (coming, pots), as short as can be, by which somebody is sent away without need, or None."""
    rows = bare_rows(town)
    if len(rows) == 0:
        return None
    # Where the least rule wastes, a bare row has come: so none is shorter than its four houses. Its
    # ends get one paint, the next house the other, and the last one finds both taken.
    one, two, three, four = rows[0]
    return ((one, four, two, three), POTS_FOR_ROW)


def shows_slip(town, value):
    """Whether a value is what slip may return."""
    shortest = slip(town)
    if shortest is None:
        return value is None
    if not isinstance(value, tuple) or len(value) != 2:
        return False
    coming, pots = value
    if not is_coming(coming, town[0]) or len(coming) != len(shortest[0]) or not is_number(pots, 0, MOST_POTS):
        return False
    beside = neighbors(town)
    return None in pot_paints(beside, coming, pots) and fewest_paints(beside, coming) <= pots
