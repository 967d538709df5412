"""What is a view or a wit, and the error for what is not."""

from maskpaint.checks import MOST_HOUSES, is_lot, is_paint
from maskpaint.errors import BadWit

MOST_PAIRS = 300


def paints_at(link, told):
    """The list of the paints that the neighbors at the places of a link have."""
    return [told[place] for place in link]


def are_links(value):
    """Whether a value is a tuple, for each of some houses, of the places of its neighbors ahead."""
    if not isinstance(value, tuple) or not 1 <= len(value) <= MOST_HOUSES:
        return False
    # The places ahead are numbered as the houses of a map of so many are.
    return all(is_lot(link, at) for at, link in enumerate(value))


def are_told(value, links):
    """Whether a value is a tuple of paints for all but the last of some linked houses, neighbors unlike."""
    if not isinstance(value, tuple) or len(value) != len(links) - 1:
        return False
    if not all(is_paint(paint) for paint in value):
        return False
    return all(paint not in paints_at(links[at], value) for at, paint in enumerate(value))


def is_view(value):
    """Whether a value is a view."""
    if not isinstance(value, tuple) or len(value) != 2:
        return False
    return are_links(value[0]) and are_told(value[1], value[0])


def is_telling(value):
    """Whether a value is a pair of a view and a paint that no neighbor of the last house has."""
    if not isinstance(value, tuple) or len(value) != 2 or not is_view(value[0]):
        return False
    (links, told), paint = value
    return is_paint(paint) and paint not in paints_at(links[-1], told)


def first_wrong(values):
    """The index of the first of some values that cannot stand there in a wit, None if all can."""
    for at, value in enumerate(values):
        if not is_telling(value) or (at > 0 and value[0] <= values[at - 1][0]):
            return at
    return None


def check_wit(wit):
    """Raise BadWit unless a value is a wit."""
    if not isinstance(wit, tuple) or len(wit) > MOST_PAIRS:
        raise BadWit(None)
    wrong = first_wrong(wit)
    if wrong is not None:
        raise BadWit(wrong)
