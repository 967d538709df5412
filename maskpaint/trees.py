"""Trees that tell maps."""

from maskpaint.checks import MOST_HOUSES, check_map, is_number
from maskpaint.errors import BadTree
from maskpaint.lots import every_house, neighbors, share
from maskpaint.maps import count_paintings, need

SIDE = "side"
ALL = "all"


def is_joint(value):
    """Whether a value is a pair of a tree's word and a tuple of two things or more."""
    if not isinstance(value, tuple) or len(value) != 2 or value[0] not in (SIDE, ALL):
        return False
    return isinstance(value[1], tuple) and len(value[1]) >= 2


def is_tree(value):
    """Whether a value is a tree."""
    # A loop that ends at too many parts, as a value may be nested without limit.
    waiting, houses = [value], []
    while waiting and len(waiting) + len(houses) <= MOST_HOUSES:
        part = waiting.pop()
        if is_joint(part):
            waiting.extend(part[1])
        else:
            houses.append(part)
    if waiting or not all(is_number(house, 0, MOST_HOUSES - 1) for house in houses):
        return False
    return sorted(houses) == list(range(len(houses)))


def check_tree(value):
    """Raise BadTree unless a value is a tree."""
    if not is_tree(value):
        raise BadTree("no tree")


def houses_in(part):
    """The list of the houses in a part of a tree."""
    if isinstance(part, int):
        return [part]
    return [house for inner in part[1] for house in houses_in(inner)]


def told_pairs(part):
    """The list of the pairs of neighbors, the lesser one first, that a part of a tree tells."""
    if isinstance(part, int):
        return []
    word, inner_parts = part
    pairs, ahead = [], []
    for inner in inner_parts:
        houses = houses_in(inner)
        pairs = pairs + told_pairs(inner)
        if word == ALL:
            pairs = pairs + [(min(one, other), max(one, other)) for one in ahead for other in houses]
        ahead = ahead + houses
    return pairs


def map_of(value):
    """The map that a tree tells."""
    check_tree(value)
    return (len(houses_in(value)), tuple(sorted(told_pairs(value))))


def keeps_together(beside, word, house, group):
    """Whether a house cannot be in another part of a pair with this word than a group is."""
    if word == SIDE:
        return share(beside[house], group)
    return not all(other in beside[house] for other in group)


def groups_for(beside, lot, word):
    """The lots, by their least houses, into which a pair with this word parts a lot."""
    groups = []
    for house in lot:
        kept = [group for group in groups if keeps_together(beside, word, house, group)]
        others = [group for group in groups if group not in kept]
        joined = [(house,)] + kept
        groups = others + [tuple(sorted([one for group in joined for one in group]))]
    return sorted(groups)


def tree_of_lot(beside, lot):
    """The tree of the houses of a lot in which no part has its pair's word, or None."""
    if len(lot) == 1:
        return lot[0]
    for word in (SIDE, ALL):
        groups = groups_for(beside, lot, word)
        if len(groups) > 1:
            parts = [tree_of_lot(beside, group) for group in groups]
            return None if None in parts else (word, tuple(parts))
    return None


def tree(town):
    """The tree that tells a map, no part with its pair's word, parts by their least houses; or None."""
    check_map(town)
    return tree_of_lot(neighbors(town), every_house(town))


def shows_tree(town, value):
    """Whether a value is a tree that tells a map."""
    check_map(town)
    return is_tree(value) and map_of(value) == town


def tree_need(value):
    """The need of all houses of a tree's map."""
    town = map_of(value)
    return need(town, every_house(town))


def tree_paintings(value, paints):
    """In how many ways the houses of a tree's map can be painted with paints up to a number."""
    return count_paintings(map_of(value), paints)
