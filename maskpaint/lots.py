"""Lots and heaps of maps that have been checked.

Here `beside` is the list that `neighbors` returns: at each house the tuple of its neighbors.
"""


def neighbors(town):
    """For each house of a map the ascending tuple of its neighbors."""
    houses, pairs = town
    return [
        tuple([other for other in range(houses) if (house, other) in pairs or (other, house) in pairs])
        for house in range(houses)
    ]


def every_house(town):
    """The lot of all houses of a map."""
    return tuple(range(town[0]))


def all_lots(town):
    """All lots of a map, each behind the smaller lots that are contained in it."""
    lots = [()]
    for house in range(town[0]):
        lots = lots + [lot + (house,) for lot in lots]
    return lots


def lots_of_size(lots, size):
    """The ascending tuple of those lots that have so many houses."""
    return tuple(sorted([lot for lot in lots if len(lot) == size]))


def share(lot, other_lot):
    """Whether two lots have a house in common."""
    return any(house in other_lot for house in lot)


def without(lot, other_lot):
    """The houses of a lot that are not in another one."""
    return tuple([house for house in lot if house not in other_lot])


def is_heap(beside, lot):
    """Whether no two houses of a lot are neighbors."""
    return not any(share(beside[house], lot) for house in lot)


def is_mutual(beside, lot):
    """Whether each two houses of a lot are neighbors."""
    return all(other in beside[house] for house in lot for other in lot if other != house)


def ways_with(beside, heaps, house):
    """The ways to add a house to some heaps: as a heap of its own, or to one without a neighbor."""
    ways = [heaps + ((house,),)]
    for at, heap in enumerate(heaps):
        if not share(beside[house], heap):
            ways.append(heaps[:at] + (heap + (house,),) + heaps[at + 1:])
    return ways


def ways_to_part(beside, lot):
    """All ways to part a lot into heaps, each a tuple of heaps, each way once."""
    ways = [()]
    for house in lot:
        ways = [way for heaps in ways for way in ways_with(beside, heaps, house)]
    return ways


def fewest_paints(beside, lot):
    """The fewest paints with which a lot can be painted, neighbors unlike."""
    # The houses of one paint are a heap, so that paints are counted by heaps.
    return min([len(heaps) for heaps in ways_to_part(beside, lot)])
