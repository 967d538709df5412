"""The maps and trees that the tests go over."""

from itertools import combinations


def all_pairs(houses):
    return tuple(combinations(range(houses), 2))


def map_from(houses, mask):
    """The map whose pairs are those at the places of the ones of a number."""
    return houses, tuple(pair for at, pair in enumerate(all_pairs(houses)) if mask >> at & 1)


def every_map(houses):
    return [map_from(houses, mask) for mask in range(2 ** len(all_pairs(houses)))]


def line_of(houses):
    return houses, tuple((house, house + 1) for house in range(houses - 1))


def ring_of(houses):
    return houses, tuple(sorted(line_of(houses)[1] + ((0, houses - 1),)))


ONE = (1, ())
LINE = line_of(4)
RING = ring_of(4)
STAR = (4, ((0, 1), (0, 2), (0, 3)))
EMPTY = (7, ())
FULL = (7, all_pairs(7))
# The same line of seven, with houses numbered as they do not stand in it.
MIXED_LINE = (7, ((0, 3), (0, 4), (1, 4), (1, 6), (2, 5), (2, 6)))
# Two houses each against three: each neighbor but its own mate.
CROWN = (6, ((0, 4), (0, 5), (1, 3), (1, 5), (2, 3), (2, 4)))

SMALL = [town for houses in range(1, 5) for town in every_map(houses)]

# Drawn once, and fixed since.
DRAWN_MASKS = (
    (5, (117, 197, 202, 246, 258, 299, 333, 818, 842, 962)),
    (6, (4766, 7792, 15605, 18215, 18281, 20032, 20665, 21663, 31229, 32758)),
    (7, (5088, 59456, 362135, 587077, 1042599, 1049875, 1661864, 1752013, 1784925, 2007343)),
)
DRAWN_TREES = (
    ("side", (2, ("side", (4, 0, 3)), 1)),
    ("all", (2, ("side", (1, 3)), 4, 0)),
    ("all", (3, 2, ("side", (1, 4)), 0)),
    ("all", (2, ("all", (0, ("side", (4, 1)), 3)))),
    ("all", (2, 1, ("side", (4, 5, 3)), 0)),
    ("side", (5, 2, ("side", (3, 4)), ("side", (0, 1)))),
    ("all", (("all", (("all", (3, 2)), ("all", (0, 4)), 5)), 1)),
    ("side", (("side", (5, 2)), ("side", (4, 3, 0, 1)))),
    ("all", (("all", (("all", (("all", (0, 4)), 1)), ("all", (6, 2)), 3)), 5)),
    ("all", (("side", (6, 3)), ("side", (1, ("all", (0, 2)), 4, 5)))),
    ("all", (("all", (2, 1, 6)), ("side", (3, 4, 5, 0)))),
    ("all", (("side", (1, ("all", (2, 4)))), ("side", (3, 5)), 6, 0)),
    ("side", (("side", (0, 6)), ("all", (5, 4)), 1, ("all", (3, 2)))),
    ("side", (("side", (("all", (5, 0)), 3, 4)), 1, ("side", (6, 2)))),
    ("side", (0, ("all", (1, ("side", (2, ("all", (3, ("side", (4, ("all", (5, 6)))))))))))),
)
DRAWN = [map_from(houses, mask) for houses, masks in DRAWN_MASKS for mask in masks]
LARGER = DRAWN + [line_of(5), ring_of(5), ring_of(6), ring_of(7), MIXED_LINE, CROWN, EMPTY, FULL]
