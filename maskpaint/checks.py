"""What is a map, a house, a lot, a coming or a number, and the error for what is not."""

from maskpaint.errors import BadComing, BadHouse, BadLot, BadMap, BadNumber

MOST_HOUSES = 7
LAST_PAINT = 7


def is_number(value, least, most):
    """Whether a value is an integer from least to most."""
    # True and False are integers for Python, but not for this package.
    return isinstance(value, int) and not isinstance(value, bool) and least <= value <= most


def is_paint(value):
    """Whether a value is a paint that a painter may give."""
    return is_number(value, 1, LAST_PAINT)


def are_houses(value, houses):
    """Whether a value is a tuple of houses of a map of so many."""
    return isinstance(value, tuple) and all(is_number(house, 0, houses - 1) for house in value)


def is_ascending(values):
    """Whether each value of a tuple is greater than the one ahead."""
    return all(values[at] < values[at + 1] for at in range(len(values) - 1))


def is_lot(value, houses):
    """Whether a value is a lot of a map of so many houses."""
    return are_houses(value, houses) and is_ascending(value)


def is_coming(value, houses):
    """Whether a value is a coming of a map of so many houses."""
    return are_houses(value, houses) and len(set(value)) == len(value)


def are_pairs(value, houses):
    """Whether a value is an ascending tuple of pairs of houses, the lesser one first."""
    if not isinstance(value, tuple):
        return False
    return all(is_lot(pair, houses) and len(pair) == 2 for pair in value) and is_ascending(value)


def check_map(town):
    """Raise BadMap unless a value is a map."""
    if not isinstance(town, tuple) or len(town) != 2:
        raise BadMap("map")
    houses, pairs = town
    if not is_number(houses, 1, MOST_HOUSES):
        raise BadMap("houses")
    if not are_pairs(pairs, houses):
        raise BadMap("pairs")


def check_house(town, house):
    """Raise BadHouse unless a value is a house of a map."""
    if not is_number(house, 0, town[0] - 1):
        raise BadHouse("no house of the map")


def check_lot(town, lot):
    """Raise BadLot unless a value is a lot of a map."""
    if not is_lot(lot, town[0]):
        raise BadLot("no lot of the map")


def check_coming(town, coming):
    """Raise BadComing unless a value is a coming of a map."""
    if not is_coming(coming, town[0]):
        raise BadComing("no coming of the map")


def check_number(value, least, most):
    """Raise BadNumber unless a value is an integer from least to most."""
    if not is_number(value, least, most):
        raise BadNumber(f"no integer from {least} to {most}")
