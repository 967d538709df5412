"""Painters with so many pots, tried out in the plainest way, to judge the program's answers by."""

from tests import plain

POTS = range(10)


def by_pots(town, coming, pots):
    told = {}
    for at, house in enumerate(coming):
        taken = [told[other] for other in coming[:at] if plain.beside(town, house, other)]
        told[house] = min((paint for paint in range(1, pots + 1) if paint not in taken), default=None)
    return tuple(told[house] for house in coming)


def sent_away(town, coming, pots):
    told = dict(zip(coming, by_pots(town, coming, pots)))
    return tuple(house for house in coming if told[house] is None)


def needs_of(town):
    return {lot: plain.need(town, lot) for lot in plain.lots_of(town)}


def fewest_away(needs, lot, pots):
    """The fewest houses that a lot has more than one in it that needs no more paints than pots."""
    return min(len(lot) - len(part) for part in needs if set(part) <= set(lot) and needs[part] <= pots)


def slips(town):
    """All pairs (coming, pots) by which somebody is sent away without need, of the shortest comings."""
    needs, found = needs_of(town), []
    for coming in plain.comings(town):
        # The comings stand by their lengths.
        if found and len(coming) > len(found[0][0]):
            break
        least = needs[tuple(sorted(coming))]
        found += [(coming, pots) for pots in POTS if pots >= least and sent_away(town, coming, pots)]
    return found
